/-
  The contract of the document's Sound of facts that say there is nothing, where it is sound.
-/
import Derived.Test.YthppgofpbpjglaaGreatFbP5
import Derived.Test.YthppgofpbpjglaaGreatFbP4
import Derived.Test.YthppgofpbpjglaaGreatFbP3
import Derived.Test.YthppgofpbpjglaaGreatFbP1
import Derived.Test.YthppgofpbpjglaaGreatProg
import Derived.Test.YthppgofpbpjglaaGreatFbP2
import Derived.Deep.QuietTactic
import Derived.BigQuiet
import Derived.Deep.RegionLaw
import Derived.Deep.AppendLies
import Derived.Deep.RegionHeld3
import Derived.BigRegion
import Derived.Deep.LoopGhost
import Derived.Recover
import Derived.Defers
import Derived.Laws.Pointers
namespace Go.Proofs.YthppgofpbpjglaaGreat
open Go.RowKit

set_option maxRecDepth 20000 in
set_option maxHeartbeats 8000000 in
theorem fno_2h (w : World) (x : FV) (hx : FAt w w.heap.size x) (hi : FIn x) (hh : headB x.name x.h = true) (k1 : x.h.knd = 2) (hty : typedB x.h.typ = true) (hset : x.sp.length = 0) (httl : x.h.ttl ≤ 10800) (hz : soundN x.zone = true) (hu : underN x.name x.zone = true) (hd : soundD 6 x.soa = true) : Calls Tryz.prog 8 #[x.val] w (Gave w (.bool true)) := by
  have hsz1 := soundN_sz (headB_parts hh).1
  have hsz2 := soundN_sz hz
  have HUN := Lib.hid (fun W (h : FBoxes w x W) => ref_under_any x.A x.zA x.name.length x.zone.length x.c x.zc w.heap.size x.name x.zone W rfl rfl (hx.n.below h.below) (hx.z.below h.below) (Nat.le_trans (Nat.le_add_right _ 2) h.size) hsz1 hsz2 hx.ln)
  rw [hu] at HUN
  clear hsz1 hsz2 hu
  have HDA := Lib.hid (fun W (h : FBoxes w x W) => refData_any 6 x.d x.soa W ((hx.d.below h.below).mono h.below.size) hi.d.ref)
  rw [hd] at HDA
  clear hd
  have HSZ := Lib.hid (fun W' (hb : Below w.heap.size w W') => ref_sound_wide x.zA x.zc w.heap.size x.zone W' (hx.z.below hb) hi.z.1 hi.z.2)
  rw [hz] at HSZ
  clear hz
  obtain ⟨W, hW⟩ : ∃ W, W = w.alloc (.cells #[.slice x.A x.name.length x.c, .int .i64 x.h.typ, .int .i64 x.h.knd, .int .i64 x.h.rank, .int .i64 x.h.got, .int .i64 x.h.ttl, .slice x.sA x.sp.length x.sc, .slice x.zA x.zone.length x.zc, .slice x.d.Ab x.soa.bytes.length x.d.cb, .slice x.d.Ah x.soa.host.length x.d.ch, .slice x.d.Am x.soa.mail.length x.d.cm, .slice x.d.An x.soa.nums.length x.d.cn, .slice x.d.At x.soa.texts.length x.d.ct] 40) := ⟨_, rfl⟩
  have hB : Below w.heap.size w W := by rw [hW]; exact (Below.refl _ _).alloc (Nat.le_refl _) _
  have HB := Lib.hid hB
  have HN := Lib.hid (fun W' (hb : Below w.heap.size w W') => ref_sound_wide x.A x.c w.heap.size x.name W' (hx.n.below hb) hi.n.1 hi.n.2)
  have HT := Lib.hid (fun W' => time_any x.h.got W')
  have HX := Lib.hid hx
  have HI := Lib.hid hi
  have HTY := Lib.hid (fun W' => typed_any x.h.typ W')
  rw [hty] at HTY
  have b1 : (x.h.knd == 1) = false := by rw [k1]; rfl
  have b2 : (x.h.knd == 2) = true := by rw [k1]; rfl
  have b3 : (x.h.knd == 3) = false := by rw [k1]; rfl
  have HHP := Lib.hid (headB_parts hh)
  have HK := Lib.hid k1
  clear hx hi hh hB hty k1
  subst hW
  obtain ⟨hn, h1, h2, ht, h3, h4⟩ := HHP.out
  rw [hn] at HN
  rw [ht] at HT
  have d1 : decide (x.h.rank < 1) = false := decide_eq_false (by omega)
  have d2 : decide (4 < x.h.rank) = false := decide_eq_false (by omega)
  have d3 : decide (x.h.ttl < 0) = false := decide_eq_false (by omega)
  have d4 : decide (604800 < x.h.ttl) = false := decide_eq_false (by omega)
  clear hn ht h1 h2 h3 h4 HHP
  have b6 : ((x.sp.length : Int) == 0) = true := by rw [hset]; rfl
  have HL := Lib.hid hset
  clear hset
  have e5 : decide (x.h.ttl ≤ 10800) = true := decide_eq_true httl
  clear httl
  have HCS := Lib.hid (show ∀ W, FBoxes w x W → (W.cell? ⟨w.heap.size, 0, none⟩ = some (.slice x.A x.name.length x.c) ∧ W.cell? ⟨w.heap.size, 1, none⟩ = some (.int .i64 x.h.typ) ∧ W.cell? ⟨w.heap.size, 2, none⟩ = some (.int .i64 x.h.knd) ∧ W.cell? ⟨w.heap.size, 5, none⟩ = some (.int .i64 x.h.ttl) ∧ W.cell? ⟨w.heap.size, 6, none⟩ = some (.slice x.sA x.sp.length x.sc) ∧ W.cell? ⟨w.heap.size, 7, none⟩ = some (.slice x.zA x.zone.length x.zc)) ∧ (W.cell? ⟨w.heap.size + 1, 0, none⟩ = some (.slice x.d.Ab x.soa.bytes.length x.d.cb) ∧ W.cell? ⟨w.heap.size + 1, 1, none⟩ = some (.slice x.d.Ah x.soa.host.length x.d.ch) ∧ W.cell? ⟨w.heap.size + 1, 2, none⟩ = some (.slice x.d.Am x.soa.mail.length x.d.cm) ∧ W.cell? ⟨w.heap.size + 1, 3, none⟩ = some (.slice x.d.An x.soa.nums.length x.d.cn) ∧ W.cell? ⟨w.heap.size + 1, 4, none⟩ = some (.slice x.d.At x.soa.texts.length x.d.ct)) from fun W h => ⟨⟨h.f.cell 0, h.f.cell 1, h.f.cell 2, h.f.cell 5, h.f.cell 6, h.f.cell 7⟩, ⟨h.d.cell 0, h.d.cell 1, h.d.cell 2, h.d.cell 3, h.d.cell 4⟩⟩)
  have HBX := Lib.hid (FBoxes.made w x)
  go_enter Tryz.func8, Tryz.ntmps8
  go_wp2_with (first
    | (go_at_call 21; refine (HN.out _ HB.out).mono ?_; rintro e w1 ⟨rfl, rfl⟩)
    | (go_at_call 22; refine (HT.out _).mono ?_; rintro e w1 ⟨rfl, rfl⟩))
  refine wp_region_held_drew (S := fun W => (W.cell? ⟨w.heap.size, 0, none⟩ = some (.slice x.A x.name.length x.c) ∧ W.cell? ⟨w.heap.size, 1, none⟩ = some (.int .i64 x.h.typ) ∧ W.cell? ⟨w.heap.size, 2, none⟩ = some (.int .i64 x.h.knd) ∧ W.cell? ⟨w.heap.size, 5, none⟩ = some (.int .i64 x.h.ttl) ∧ W.cell? ⟨w.heap.size, 6, none⟩ = some (.slice x.sA x.sp.length x.sc) ∧ W.cell? ⟨w.heap.size, 7, none⟩ = some (.slice x.zA x.zone.length x.zc)) ∧ (W.cell? ⟨w.heap.size + 1, 0, none⟩ = some (.slice x.d.Ab x.soa.bytes.length x.d.cb) ∧ W.cell? ⟨w.heap.size + 1, 1, none⟩ = some (.slice x.d.Ah x.soa.host.length x.d.ch) ∧ W.cell? ⟨w.heap.size + 1, 2, none⟩ = some (.slice x.d.Am x.soa.mail.length x.d.cm) ∧ W.cell? ⟨w.heap.size + 1, 3, none⟩ = some (.slice x.d.An x.soa.nums.length x.d.cn) ∧ W.cell? ⟨w.heap.size + 1, 4, none⟩ = some (.slice x.d.At x.soa.texts.length x.d.ct))) (by kernel_rfl) (by exact HCS.out _ HBX.out) (fun hHeld => ?_)
  refine wpAnyH_take (i := 0) (oi := ⟨some 124, _, _, _, _, _⟩) (v := ?_) rfl (by kernel_rfl) (by kernel_rfl) (by kernel_rfl) (fun _ _ _ h => h) (Or.inl ⟨by kernel_rfl, ?_⟩) (by assumption) ?_
  rotate_left
  · intro W hSw
    try dsimp only at hSw
    go_simp
    all_goals (with_reducible rfl)
  try simp only [Act.put, List.setIfInBounds_toArray, List.set_cons_zero, List.set_cons_succ]
  refine wpAnyH_take (i := 1) (oi := ⟨some 125, _, _, _, _, _⟩) (v := ?_) rfl (by kernel_rfl) (by kernel_rfl) (by kernel_rfl) (fun _ _ _ h => h) (Or.inl ⟨by kernel_rfl, ?_⟩) (by assumption) ?_
  rotate_left
  · intro W hSw
    try dsimp only at hSw
    go_simp
    all_goals (with_reducible rfl)
  try simp only [Act.put, List.setIfInBounds_toArray, List.set_cons_zero, List.set_cons_succ]
  refine wpAnyH_take (i := 2) (oi := ⟨some 126, _, _, _, _, _⟩) (v := ?_) rfl (by kernel_rfl) (by kernel_rfl) (by kernel_rfl) (fun _ _ _ h => h) (Or.inl ⟨by kernel_rfl, ?_⟩) (by assumption) ?_
  rotate_left
  · intro W hSw
    try dsimp only at hSw
    go_simp
    all_goals (with_reducible rfl)
  try simp only [Act.put, List.setIfInBounds_toArray, List.set_cons_zero, List.set_cons_succ]
  refine wpAnyH_take (i := 3) (oi := ⟨some 127, _, _, _, _, _⟩) (v := ?_) rfl (by kernel_rfl) (by kernel_rfl) (by kernel_rfl) (fun _ _ _ h => h) (Or.inl ⟨by kernel_rfl, ?_⟩) (by assumption) ?_
  rotate_left
  · intro W hSw
    try dsimp only at hSw
    go_simp
    all_goals (with_reducible rfl)
  try simp only [Act.put, List.setIfInBounds_toArray, List.set_cons_zero, List.set_cons_succ]
  refine wpAnyH_take (i := 4) (oi := ⟨some 128, _, _, _, _, _⟩) (v := ?_) rfl (by kernel_rfl) (by kernel_rfl) (by kernel_rfl) (fun _ _ _ h => h) (Or.inl ⟨by kernel_rfl, ?_⟩) (by assumption) ?_
  rotate_left
  · intro W hSw
    try dsimp only at hSw
    go_simp
    all_goals (with_reducible rfl)
  try simp only [Act.put, List.setIfInBounds_toArray, List.set_cons_zero, List.set_cons_succ]
  refine wpAnyH_ready (rs := [5]) (by kernel_rfl) (by simp) ?_
  refine AllReadyH.cons (o := { dst := some 129, op := Go.Op.call { callee := Go.Callee.value (Go.Operand.func 23), args := #[Go.Operand.tmp 128], argTypes := #[3] }, type := 4, pos := "ref.go:78", after := #[{ on := 4, ground := Go.Ground.data }], guard := none }) rfl (fun K hK => ?_) AllReadyH.nil
  go_simp
  refine (HTY.out _).mono ?_
  rintro e w1 ⟨rfl, rfl⟩
  refine hK.out _ _ (by exact hHeld) (fun hHeld2 => ?_)
  clear hK K hHeld
  have hHeld := hHeld2
  clear hHeld2
  try simp only [Act.put, List.setIfInBounds_toArray, List.set_cons_zero, List.set_cons_succ]
  refine wpAnyH_take (i := 6) (oi := ⟨some 130, _, _, _, _, _⟩) (v := ?_) rfl (by kernel_rfl) (by kernel_rfl) (by kernel_rfl) (fun _ _ _ h => h) (Or.inl ⟨by kernel_rfl, ?_⟩) (by assumption) ?_
  rotate_left
  · intro W hSw
    try dsimp only at hSw
    go_simp
    all_goals (with_reducible rfl)
  try simp only [Act.put, List.setIfInBounds_toArray, List.set_cons_zero, List.set_cons_succ]
  refine wpAnyH_take (i := 7) (oi := ⟨some 131, _, _, _, _, _⟩) (v := ?_) rfl (by kernel_rfl) (by kernel_rfl) (by kernel_rfl) (fun _ _ _ h => h) (Or.inl ⟨by kernel_rfl, ?_⟩) (by assumption) ?_
  rotate_left
  · intro W hSw
    try dsimp only at hSw
    go_simp
    all_goals (with_reducible rfl)
  try simp only [Act.put, List.setIfInBounds_toArray, List.set_cons_zero, List.set_cons_succ]
  refine wpAnyH_take (i := 8) (oi := ⟨some 132, _, _, _, _, _⟩) (v := ?_) rfl (by kernel_rfl) (by kernel_rfl) (by kernel_rfl) (fun _ _ _ h => h) (Or.inl ⟨by kernel_rfl, ?_⟩) (by assumption) ?_
  rotate_left
  · intro W hSw
    try dsimp only at hSw
    go_simp
    all_goals (with_reducible rfl)
  try simp only [Act.put, List.setIfInBounds_toArray, List.set_cons_zero, List.set_cons_succ]
  refine wpAnyH_take (i := 9) (oi := ⟨some 133, _, _, _, _, _⟩) (v := ?_) rfl (by kernel_rfl) (by kernel_rfl) (by kernel_rfl) (fun _ _ _ h => h) (Or.inl ⟨by kernel_rfl, ?_⟩) (by assumption) ?_
  rotate_left
  · intro W hSw
    try dsimp only at hSw
    go_simp
    all_goals (with_reducible rfl)
  try simp only [Act.put, List.setIfInBounds_toArray, List.set_cons_zero, List.set_cons_succ]
  refine wpAnyH_take (i := 10) (oi := ⟨some 134, _, _, _, _, _⟩) (v := ?_) rfl (by kernel_rfl) (by kernel_rfl) (by kernel_rfl) (fun _ _ _ h => h) (Or.inl ⟨by kernel_rfl, ?_⟩) (by assumption) ?_
  rotate_left
  · intro W hSw
    try dsimp only at hSw
    go_simp
    all_goals (with_reducible rfl)
  try simp only [Act.put, List.setIfInBounds_toArray, List.set_cons_zero, List.set_cons_succ]
  refine wpAnyH_take (i := 11) (oi := ⟨some 135, _, _, _, _, _⟩) (v := ?_) rfl (by kernel_rfl) (by kernel_rfl) (by kernel_rfl) (fun _ _ _ h => h) (Or.inl ⟨by kernel_rfl, ?_⟩) (by assumption) ?_
  rotate_left
  · intro W hSw
    try dsimp only at hSw
    go_simp
    all_goals (with_reducible rfl)
  try simp only [Act.put, List.setIfInBounds_toArray, List.set_cons_zero, List.set_cons_succ]
  refine wpAnyH_take (i := 12) (oi := ⟨some 136, _, _, _, _, _⟩) rfl (by kernel_rfl) (by kernel_rfl) (by kernel_rfl) (fun _ _ _ h => h) (Or.inr ⟨by kernel_rfl, rfl⟩) (by assumption) ?_
  try simp only [Act.put, List.setIfInBounds_toArray, List.set_cons_zero, List.set_cons_succ]
  refine wpAnyH_take (i := 13) (oi := ⟨some 137, _, _, _, _, _⟩) rfl (by kernel_rfl) (by kernel_rfl) (by kernel_rfl) (fun _ _ _ h => h) (Or.inr ⟨by kernel_rfl, rfl⟩) (by assumption) ?_
  try simp only [Act.put, List.setIfInBounds_toArray, List.set_cons_zero, List.set_cons_succ]
  refine wpAnyH_take (i := 14) (oi := ⟨some 138, _, _, _, _, _⟩) rfl (by kernel_rfl) (by kernel_rfl) (by kernel_rfl) (fun _ _ _ h => h) (Or.inr ⟨by kernel_rfl, rfl⟩) (by assumption) ?_
  try simp only [Act.put, List.setIfInBounds_toArray, List.set_cons_zero, List.set_cons_succ]
  refine wpAnyH_take (i := 15) (oi := ⟨some 139, _, _, _, _, _⟩) (v := ?_) rfl (by kernel_rfl) (by kernel_rfl) (by kernel_rfl) (fun _ _ _ h => h) (Or.inl ⟨by kernel_rfl, ?_⟩) (by assumption) ?_
  rotate_left
  · intro W hSw
    try dsimp only at hSw
    go_simp
    all_goals (with_reducible rfl)
  try simp only [Act.put, List.setIfInBounds_toArray, List.set_cons_zero, List.set_cons_succ]
  refine wpAnyH_take (i := 16) (oi := ⟨some 140, _, _, _, _, _⟩) (v := ?_) rfl (by kernel_rfl) (by kernel_rfl) (by kernel_rfl) (fun _ _ _ h => h) (Or.inl ⟨by kernel_rfl, ?_⟩) (by assumption) ?_
  rotate_left
  · intro W hSw
    try dsimp only at hSw
    go_simp
    all_goals (with_reducible rfl)
  try simp only [Act.put, List.setIfInBounds_toArray, List.set_cons_zero, List.set_cons_succ]
  refine wpAnyH_take (i := 17) (oi := ⟨some 141, _, _, _, _, _⟩) (v := ?_) rfl (by kernel_rfl) (by kernel_rfl) (by kernel_rfl) (fun _ _ _ h => h) (Or.inl ⟨by kernel_rfl, ?_⟩) (by assumption) ?_
  rotate_left
  · intro W hSw
    try dsimp only at hSw
    go_simp
    all_goals (with_reducible rfl)
  try simp only [Act.put, List.setIfInBounds_toArray, List.set_cons_zero, List.set_cons_succ]
  refine wpAnyH_take (i := 18) (oi := ⟨some 142, _, _, _, _, _⟩) (v := ?_) rfl (by kernel_rfl) (by kernel_rfl) (by kernel_rfl) (fun _ _ _ h => h) (Or.inl ⟨by kernel_rfl, ?_⟩) (by assumption) ?_
  rotate_left
  · intro W hSw
    try dsimp only at hSw
    go_simp
    all_goals (with_reducible rfl)
  try simp only [Act.put, List.setIfInBounds_toArray, List.set_cons_zero, List.set_cons_succ]
  refine wpAnyH_take (i := 19) (oi := ⟨some 143, _, _, _, _, _⟩) (v := ?_) rfl (by kernel_rfl) (by kernel_rfl) (by kernel_rfl) (fun _ _ _ h => h) (Or.inl ⟨by kernel_rfl, ?_⟩) (by assumption) ?_
  rotate_left
  · intro W hSw
    try dsimp only at hSw
    go_simp
    all_goals (with_reducible rfl)
  try simp only [Act.put, List.setIfInBounds_toArray, List.set_cons_zero, List.set_cons_succ]
  refine wpAnyH_take (i := 20) (oi := ⟨some 144, _, _, _, _, _⟩) (v := ?_) rfl (by kernel_rfl) (by kernel_rfl) (by kernel_rfl) (fun _ _ _ h => h) (Or.inl ⟨by kernel_rfl, ?_⟩) (by assumption) ?_
  rotate_left
  · intro W hSw
    try dsimp only at hSw
    go_simp
    all_goals (with_reducible rfl)
  try simp only [Act.put, List.setIfInBounds_toArray, List.set_cons_zero, List.set_cons_succ]
  refine wpAnyH_take (i := 21) (oi := ⟨some 145, _, _, _, _, _⟩) (v := ?_) rfl (by kernel_rfl) (by kernel_rfl) (by kernel_rfl) (fun _ _ _ h => h) (Or.inl ⟨by kernel_rfl, ?_⟩) (by assumption) ?_
  rotate_left
  · intro W hSw
    try dsimp only at hSw
    go_simp
    all_goals (with_reducible rfl)
  try simp only [Act.put, List.setIfInBounds_toArray, List.set_cons_zero, List.set_cons_succ]
  refine wpAnyH_take (i := 22) (oi := ⟨some 146, _, _, _, _, _⟩) (v := ?_) rfl (by kernel_rfl) (by kernel_rfl) (by kernel_rfl) (fun _ _ _ h => h) (Or.inl ⟨by kernel_rfl, ?_⟩) (by assumption) ?_
  rotate_left
  · intro W hSw
    try dsimp only at hSw
    go_simp
    all_goals (with_reducible rfl)
  try simp only [Act.put, List.setIfInBounds_toArray, List.set_cons_zero, List.set_cons_succ]
  refine wpAnyH_take (i := 23) (oi := ⟨some 147, _, _, _, _, _⟩) (v := ?_) rfl (by kernel_rfl) (by kernel_rfl) (by kernel_rfl) (fun _ _ _ h => h) (Or.inl ⟨by kernel_rfl, ?_⟩) (by assumption) ?_
  rotate_left
  · intro W hSw
    try dsimp only at hSw
    go_simp
    all_goals (with_reducible rfl)
  try simp only [Act.put, List.setIfInBounds_toArray, List.set_cons_zero, List.set_cons_succ]
  refine wpAnyH_take (i := 24) (oi := ⟨some 148, _, _, _, _, _⟩) (v := ?_) rfl (by kernel_rfl) (by kernel_rfl) (by kernel_rfl) (fun _ _ _ h => h) (Or.inl ⟨by kernel_rfl, ?_⟩) (by assumption) ?_
  rotate_left
  · intro W hSw
    try dsimp only at hSw
    go_simp
    all_goals (with_reducible rfl)
  try simp only [Act.put, List.setIfInBounds_toArray, List.set_cons_zero, List.set_cons_succ]
  refine wpAnyH_take (i := 25) (oi := ⟨some 149, _, _, _, _, _⟩) (v := ?_) rfl (by kernel_rfl) (by kernel_rfl) (by kernel_rfl) (fun _ _ _ h => h) (Or.inl ⟨by kernel_rfl, ?_⟩) (by assumption) ?_
  rotate_left
  · intro W hSw
    try dsimp only at hSw
    go_simp
    all_goals (with_reducible rfl)
  try simp only [Act.put, List.setIfInBounds_toArray, List.set_cons_zero, List.set_cons_succ]
  refine wpAnyH_take (i := 26) (oi := ⟨some 150, _, _, _, _, _⟩) (v := ?_) rfl (by kernel_rfl) (by kernel_rfl) (by kernel_rfl) (fun _ _ _ h => h) (Or.inl ⟨by kernel_rfl, ?_⟩) (by assumption) ?_
  rotate_left
  · intro W hSw
    try dsimp only at hSw
    go_simp
    all_goals (with_reducible rfl)
  try simp only [Act.put, List.setIfInBounds_toArray, List.set_cons_zero, List.set_cons_succ]
  refine wpAnyH_take (i := 27) (oi := ⟨some 151, _, _, _, _, _⟩) (v := ?_) rfl (by kernel_rfl) (by kernel_rfl) (by kernel_rfl) (fun _ _ _ h => h) (Or.inl ⟨by kernel_rfl, ?_⟩) (by assumption) ?_
  rotate_left
  · intro W hSw
    try dsimp only at hSw
    go_simp
    all_goals (with_reducible rfl)
  try simp only [Act.put, List.setIfInBounds_toArray, List.set_cons_zero, List.set_cons_succ]
  refine wpAnyH_take (i := 28) (oi := ⟨some 152, _, _, _, _, _⟩) (v := ?_) rfl (by kernel_rfl) (by kernel_rfl) (by kernel_rfl) (fun _ _ _ h => h) (Or.inl ⟨by kernel_rfl, ?_⟩) (by assumption) ?_
  rotate_left
  · intro W hSw
    try dsimp only at hSw
    go_simp
    all_goals (with_reducible rfl)
  try simp only [Act.put, List.setIfInBounds_toArray, List.set_cons_zero, List.set_cons_succ]
  refine wpAnyH_take (i := 29) (oi := ⟨some 153, _, _, _, _, _⟩) (v := ?_) rfl (by kernel_rfl) (by kernel_rfl) (by kernel_rfl) (fun _ _ _ h => h) (Or.inl ⟨by kernel_rfl, ?_⟩) (by assumption) ?_
  rotate_left
  · intro W hSw
    try dsimp only at hSw
    go_simp
    all_goals (with_reducible rfl)
  try simp only [Act.put, List.setIfInBounds_toArray, List.set_cons_zero, List.set_cons_succ]
  refine wpAnyH_take (i := 30) (oi := ⟨some 154, _, _, _, _, _⟩) (v := ?_) rfl (by kernel_rfl) (by kernel_rfl) (by kernel_rfl) (fun _ _ _ h => h) (Or.inl ⟨by kernel_rfl, ?_⟩) (by assumption) ?_
  rotate_left
  · intro W hSw
    try dsimp only at hSw
    go_simp
    all_goals (with_reducible rfl)
  try simp only [Act.put, List.setIfInBounds_toArray, List.set_cons_zero, List.set_cons_succ]
  refine wpAnyH_ready (rs := [31]) (by kernel_rfl) (by simp) ?_
  refine AllReadyH.cons (o := { dst := some 155, op := Go.Op.call { callee := Go.Callee.value (Go.Operand.func 21), args := #[Go.Operand.tmp 154], argTypes := #[22] }, type := 4, pos := "ref.go:78", after := #[{ on := 30, ground := Go.Ground.data }, { on := 28, ground := Go.Ground.chain }, { on := 28, ground := Go.Ground.guard }], guard := some (28, true) }) rfl (fun K hK => ?_) AllReadyH.nil
  go_simp
  refine (HSZ.out _ HBX.out.below).mono ?_
  rintro e w1 ⟨rfl, rfl⟩
  refine hK.out _ _ (by exact hHeld) (fun hHeld2 => ?_)
  clear hK K hHeld
  have hHeld := hHeld2
  clear hHeld2
  try simp only [Act.put, List.setIfInBounds_toArray, List.set_cons_zero, List.set_cons_succ]
  refine wpAnyH_take (i := 32) (oi := ⟨some 156, _, _, _, _, _⟩) (v := ?_) rfl (by kernel_rfl) (by kernel_rfl) (by kernel_rfl) (fun _ _ _ h => h) (Or.inl ⟨by kernel_rfl, ?_⟩) (by assumption) ?_
  rotate_left
  · intro W hSw
    try dsimp only at hSw
    go_simp
    all_goals (with_reducible rfl)
  try simp only [Act.put, List.setIfInBounds_toArray, List.set_cons_zero, List.set_cons_succ]
  refine wpAnyH_take (i := 33) (oi := ⟨some 157, _, _, _, _, _⟩) (v := ?_) rfl (by kernel_rfl) (by kernel_rfl) (by kernel_rfl) (fun _ _ _ h => h) (Or.inl ⟨by kernel_rfl, ?_⟩) (by assumption) ?_
  rotate_left
  · intro W hSw
    try dsimp only at hSw
    go_simp
    all_goals (with_reducible rfl)
  try simp only [Act.put, List.setIfInBounds_toArray, List.set_cons_zero, List.set_cons_succ]
  refine wpAnyH_take (i := 34) (oi := ⟨some 158, _, _, _, _, _⟩) (v := ?_) rfl (by kernel_rfl) (by kernel_rfl) (by kernel_rfl) (fun _ _ _ h => h) (Or.inl ⟨by kernel_rfl, ?_⟩) (by assumption) ?_
  rotate_left
  · intro W hSw
    try dsimp only at hSw
    go_simp
    all_goals (with_reducible rfl)
  try simp only [Act.put, List.setIfInBounds_toArray, List.set_cons_zero, List.set_cons_succ]
  refine wpAnyH_take (i := 35) (oi := ⟨some 159, _, _, _, _, _⟩) (v := ?_) rfl (by kernel_rfl) (by kernel_rfl) (by kernel_rfl) (fun _ _ _ h => h) (Or.inl ⟨by kernel_rfl, ?_⟩) (by assumption) ?_
  rotate_left
  · intro W hSw
    try dsimp only at hSw
    go_simp
    all_goals (with_reducible rfl)
  try simp only [Act.put, List.setIfInBounds_toArray, List.set_cons_zero, List.set_cons_succ]
  refine wpAnyH_take (i := 36) (oi := ⟨some 160, _, _, _, _, _⟩) (v := ?_) rfl (by kernel_rfl) (by kernel_rfl) (by kernel_rfl) (fun _ _ _ h => h) (Or.inl ⟨by kernel_rfl, ?_⟩) (by assumption) ?_
  rotate_left
  · intro W hSw
    try dsimp only at hSw
    go_simp
    all_goals (with_reducible rfl)
  try simp only [Act.put, List.setIfInBounds_toArray, List.set_cons_zero, List.set_cons_succ]
  refine wpAnyH_take (i := 37) (oi := ⟨some 161, _, _, _, _, _⟩) (v := ?_) rfl (by kernel_rfl) (by kernel_rfl) (by kernel_rfl) (fun _ _ _ h => h) (Or.inl ⟨by kernel_rfl, ?_⟩) (by assumption) ?_
  rotate_left
  · intro W hSw
    try dsimp only at hSw
    go_simp
    all_goals (with_reducible rfl)
  try simp only [Act.put, List.setIfInBounds_toArray, List.set_cons_zero, List.set_cons_succ]
  refine wpAnyH_ready (rs := [38]) (by kernel_rfl) (by simp) ?_
  refine AllReadyH.cons (o := { dst := some 162, op := Go.Op.call { callee := Go.Callee.value (Go.Operand.func 9), args := #[Go.Operand.tmp 159, Go.Operand.tmp 161], argTypes := #[22, 22] }, type := 4, pos := "ref.go:78", after := #[{ on := 35, ground := Go.Ground.data }, { on := 37, ground := Go.Ground.data }, { on := 33, ground := Go.Ground.chain }, { on := 33, ground := Go.Ground.guard }], guard := some (33, true) }) rfl (fun K hK => ?_) AllReadyH.nil
  go_simp
  refine (HUN.out _ HBX.out).mono ?_
  rintro e w2 ⟨rfl, hb2⟩
  have HB2 := Lib.hid (HBX.out.step hb2)
  clear hb2
  refine hK.out _ _ (by exact HCS.out _ HB2.out) (fun hHeld2 => ?_)
  clear hK K hHeld
  have hHeld := hHeld2
  clear hHeld2
  try simp only [Act.put, List.setIfInBounds_toArray, List.set_cons_zero, List.set_cons_succ]
  refine wpAnyH_take (i := 39) (oi := ⟨some 163, _, _, _, _, _⟩) (v := ?_) rfl (by kernel_rfl) (by kernel_rfl) (by kernel_rfl) (fun _ _ _ h => h) (Or.inl ⟨by kernel_rfl, ?_⟩) (by assumption) ?_
  rotate_left
  · intro W hSw
    try dsimp only at hSw
    go_simp
    all_goals (with_reducible rfl)
  try simp only [Act.put, List.setIfInBounds_toArray, List.set_cons_zero, List.set_cons_succ]
  refine wpAnyH_take (i := 40) (oi := ⟨some 164, _, _, _, _, _⟩) (v := ?_) rfl (by kernel_rfl) (by kernel_rfl) (by kernel_rfl) (fun _ _ _ h => h) (Or.inl ⟨by kernel_rfl, ?_⟩) (by assumption) ?_
  rotate_left
  · intro W hSw
    try dsimp only at hSw
    go_simp
    all_goals (with_reducible rfl)
  try simp only [Act.put, List.setIfInBounds_toArray, List.set_cons_zero, List.set_cons_succ]
  refine wpAnyH_take (i := 41) (oi := ⟨some 165, _, _, _, _, _⟩) (v := ?_) rfl (by kernel_rfl) (by kernel_rfl) (by kernel_rfl) (fun _ _ _ h => h) (Or.inl ⟨by kernel_rfl, ?_⟩) (by assumption) ?_
  rotate_left
  · intro W hSw
    try dsimp only at hSw
    go_simp
    all_goals (with_reducible rfl)
  try simp only [Act.put, List.setIfInBounds_toArray, List.set_cons_zero, List.set_cons_succ]
  refine wpAnyH_ready (rs := [42]) (by kernel_rfl) (by simp) ?_
  refine AllReadyH.cons (o := { dst := some 166, op := Go.Op.call { callee := Go.Callee.value (Go.Operand.func 24), args := #[Go.Operand.const (Go.Value.int Go.IntKind.i64 6), Go.Operand.tmp 165], argTypes := #[3, 38] }, type := 4, pos := "ref.go:78", after := #[{ on := 41, ground := Go.Ground.data }, { on := 40, ground := Go.Ground.chain }, { on := 40, ground := Go.Ground.guard }], guard := some (40, true) }) rfl (fun K hK => ?_) AllReadyH.nil
  go_simp
  refine (HDA.out _ HB2.out).mono ?_
  rintro e w3 ⟨rfl, hb3⟩
  have HB3 := Lib.hid (HB2.out.step hb3)
  clear hb3
  refine hK.out _ _ (by exact HCS.out _ HB3.out) (fun hHeld2 => ?_)
  clear hK K hHeld
  have hHeld := hHeld2
  clear hHeld2
  try simp only [Act.put, List.setIfInBounds_toArray, List.set_cons_zero, List.set_cons_succ]
  refine wpAnyH_take (i := 43) (oi := ⟨some 167, _, _, _, _, _⟩) (v := ?_) rfl (by kernel_rfl) (by kernel_rfl) (by kernel_rfl) (fun _ _ _ h => h) (Or.inl ⟨by kernel_rfl, ?_⟩) (by assumption) ?_
  rotate_left
  · intro W hSw
    try dsimp only at hSw
    go_simp
    all_goals (with_reducible rfl)
  try simp only [Act.put, List.setIfInBounds_toArray, List.set_cons_zero, List.set_cons_succ]
  refine wpAnyH_take (i := 44) (oi := ⟨some 2, _, _, _, _, _⟩) (v := ?_) rfl (by kernel_rfl) (by kernel_rfl) (by kernel_rfl) (fun _ _ _ h => h) (Or.inl ⟨by kernel_rfl, ?_⟩) (by assumption) ?_
  rotate_left
  · intro W hSw
    try dsimp only at hSw
    go_simp
    all_goals (with_reducible rfl)
  try simp only [Act.put, List.setIfInBounds_toArray, List.set_cons_zero, List.set_cons_succ]
  refine wpAnyH_done (by kernel_rfl) ?_ _
  go_wp2
  go_ret
  exact ⟨rfl, HB3.out.below⟩

set_option maxRecDepth 20000 in
set_option maxHeartbeats 8000000 in
theorem fno_3h (w : World) (x : FV) (hx : FAt w w.heap.size x) (hi : FIn x) (hh : headB x.name x.h = true) (k1 : x.h.knd = 3) (hty : typedB x.h.typ = false) (ht0 : x.h.typ = 0) (hset : x.sp.length = 0) (httl : x.h.ttl ≤ 10800) (hz : soundN x.zone = true) (hu : underN x.name x.zone = true) (hd : soundD 6 x.soa = true) : Calls Tryz.prog 8 #[x.val] w (Gave w (.bool true)) := by
  have hsz1 := soundN_sz (headB_parts hh).1
  have hsz2 := soundN_sz hz
  have HUN := Lib.hid (fun W (h : FBoxes w x W) => ref_under_any x.A x.zA x.name.length x.zone.length x.c x.zc w.heap.size x.name x.zone W rfl rfl (hx.n.below h.below) (hx.z.below h.below) (Nat.le_trans (Nat.le_add_right _ 2) h.size) hsz1 hsz2 hx.ln)
  rw [hu] at HUN
  clear hsz1 hsz2 hu
  have HDA := Lib.hid (fun W (h : FBoxes w x W) => refData_any 6 x.d x.soa W ((hx.d.below h.below).mono h.below.size) hi.d.ref)
  rw [hd] at HDA
  clear hd
  have HSZ := Lib.hid (fun W' (hb : Below w.heap.size w W') => ref_sound_wide x.zA x.zc w.heap.size x.zone W' (hx.z.below hb) hi.z.1 hi.z.2)
  rw [hz] at HSZ
  clear hz
  obtain ⟨W, hW⟩ : ∃ W, W = w.alloc (.cells #[.slice x.A x.name.length x.c, .int .i64 x.h.typ, .int .i64 x.h.knd, .int .i64 x.h.rank, .int .i64 x.h.got, .int .i64 x.h.ttl, .slice x.sA x.sp.length x.sc, .slice x.zA x.zone.length x.zc, .slice x.d.Ab x.soa.bytes.length x.d.cb, .slice x.d.Ah x.soa.host.length x.d.ch, .slice x.d.Am x.soa.mail.length x.d.cm, .slice x.d.An x.soa.nums.length x.d.cn, .slice x.d.At x.soa.texts.length x.d.ct] 40) := ⟨_, rfl⟩
  have hB : Below w.heap.size w W := by rw [hW]; exact (Below.refl _ _).alloc (Nat.le_refl _) _
  have HB := Lib.hid hB
  have HN := Lib.hid (fun W' (hb : Below w.heap.size w W') => ref_sound_wide x.A x.c w.heap.size x.name W' (hx.n.below hb) hi.n.1 hi.n.2)
  have HT := Lib.hid (fun W' => time_any x.h.got W')
  have HX := Lib.hid hx
  have HI := Lib.hid hi
  have HTY := Lib.hid (fun W' => typed_any x.h.typ W')
  rw [hty] at HTY
  have b1 : (x.h.knd == 1) = false := by rw [k1]; rfl
  have b2 : (x.h.knd == 2) = false := by rw [k1]; rfl
  have b3 : (x.h.knd == 3) = true := by rw [k1]; rfl
  have HHP := Lib.hid (headB_parts hh)
  have HK := Lib.hid k1
  clear hx hi hh hB hty k1
  subst hW
  obtain ⟨hn, h1, h2, ht, h3, h4⟩ := HHP.out
  rw [hn] at HN
  rw [ht] at HT
  have d1 : decide (x.h.rank < 1) = false := decide_eq_false (by omega)
  have d2 : decide (4 < x.h.rank) = false := decide_eq_false (by omega)
  have d3 : decide (x.h.ttl < 0) = false := decide_eq_false (by omega)
  have d4 : decide (604800 < x.h.ttl) = false := decide_eq_false (by omega)
  clear hn ht h1 h2 h3 h4 HHP
  have b0 : (x.h.typ == 0) = true := by rw [ht0]; rfl
  clear ht0
  have b6 : ((x.sp.length : Int) == 0) = true := by rw [hset]; rfl
  have HL := Lib.hid hset
  clear hset
  have e5 : decide (x.h.ttl ≤ 10800) = true := decide_eq_true httl
  clear httl
  have HCS := Lib.hid (show ∀ W, FBoxes w x W → (W.cell? ⟨w.heap.size, 0, none⟩ = some (.slice x.A x.name.length x.c) ∧ W.cell? ⟨w.heap.size, 1, none⟩ = some (.int .i64 x.h.typ) ∧ W.cell? ⟨w.heap.size, 2, none⟩ = some (.int .i64 x.h.knd) ∧ W.cell? ⟨w.heap.size, 5, none⟩ = some (.int .i64 x.h.ttl) ∧ W.cell? ⟨w.heap.size, 6, none⟩ = some (.slice x.sA x.sp.length x.sc) ∧ W.cell? ⟨w.heap.size, 7, none⟩ = some (.slice x.zA x.zone.length x.zc)) ∧ (W.cell? ⟨w.heap.size + 1, 0, none⟩ = some (.slice x.d.Ab x.soa.bytes.length x.d.cb) ∧ W.cell? ⟨w.heap.size + 1, 1, none⟩ = some (.slice x.d.Ah x.soa.host.length x.d.ch) ∧ W.cell? ⟨w.heap.size + 1, 2, none⟩ = some (.slice x.d.Am x.soa.mail.length x.d.cm) ∧ W.cell? ⟨w.heap.size + 1, 3, none⟩ = some (.slice x.d.An x.soa.nums.length x.d.cn) ∧ W.cell? ⟨w.heap.size + 1, 4, none⟩ = some (.slice x.d.At x.soa.texts.length x.d.ct)) from fun W h => ⟨⟨h.f.cell 0, h.f.cell 1, h.f.cell 2, h.f.cell 5, h.f.cell 6, h.f.cell 7⟩, ⟨h.d.cell 0, h.d.cell 1, h.d.cell 2, h.d.cell 3, h.d.cell 4⟩⟩)
  have HBX := Lib.hid (FBoxes.made w x)
  go_enter Tryz.func8, Tryz.ntmps8
  go_wp2_with (first
    | (go_at_call 21; refine (HN.out _ HB.out).mono ?_; rintro e w1 ⟨rfl, rfl⟩)
    | (go_at_call 22; refine (HT.out _).mono ?_; rintro e w1 ⟨rfl, rfl⟩))
  refine wp_region_held_drew (S := fun W => (W.cell? ⟨w.heap.size, 0, none⟩ = some (.slice x.A x.name.length x.c) ∧ W.cell? ⟨w.heap.size, 1, none⟩ = some (.int .i64 x.h.typ) ∧ W.cell? ⟨w.heap.size, 2, none⟩ = some (.int .i64 x.h.knd) ∧ W.cell? ⟨w.heap.size, 5, none⟩ = some (.int .i64 x.h.ttl) ∧ W.cell? ⟨w.heap.size, 6, none⟩ = some (.slice x.sA x.sp.length x.sc) ∧ W.cell? ⟨w.heap.size, 7, none⟩ = some (.slice x.zA x.zone.length x.zc)) ∧ (W.cell? ⟨w.heap.size + 1, 0, none⟩ = some (.slice x.d.Ab x.soa.bytes.length x.d.cb) ∧ W.cell? ⟨w.heap.size + 1, 1, none⟩ = some (.slice x.d.Ah x.soa.host.length x.d.ch) ∧ W.cell? ⟨w.heap.size + 1, 2, none⟩ = some (.slice x.d.Am x.soa.mail.length x.d.cm) ∧ W.cell? ⟨w.heap.size + 1, 3, none⟩ = some (.slice x.d.An x.soa.nums.length x.d.cn) ∧ W.cell? ⟨w.heap.size + 1, 4, none⟩ = some (.slice x.d.At x.soa.texts.length x.d.ct))) (by kernel_rfl) (by exact HCS.out _ HBX.out) (fun hHeld => ?_)
  refine wpAnyH_take (i := 0) (oi := ⟨some 124, _, _, _, _, _⟩) (v := ?_) rfl (by kernel_rfl) (by kernel_rfl) (by kernel_rfl) (fun _ _ _ h => h) (Or.inl ⟨by kernel_rfl, ?_⟩) (by assumption) ?_
  rotate_left
  · intro W hSw
    try dsimp only at hSw
    go_simp
    all_goals (with_reducible rfl)
  try simp only [Act.put, List.setIfInBounds_toArray, List.set_cons_zero, List.set_cons_succ]
  refine wpAnyH_take (i := 1) (oi := ⟨some 125, _, _, _, _, _⟩) (v := ?_) rfl (by kernel_rfl) (by kernel_rfl) (by kernel_rfl) (fun _ _ _ h => h) (Or.inl ⟨by kernel_rfl, ?_⟩) (by assumption) ?_
  rotate_left
  · intro W hSw
    try dsimp only at hSw
    go_simp
    all_goals (with_reducible rfl)
  try simp only [Act.put, List.setIfInBounds_toArray, List.set_cons_zero, List.set_cons_succ]
  refine wpAnyH_take (i := 2) (oi := ⟨some 126, _, _, _, _, _⟩) (v := ?_) rfl (by kernel_rfl) (by kernel_rfl) (by kernel_rfl) (fun _ _ _ h => h) (Or.inl ⟨by kernel_rfl, ?_⟩) (by assumption) ?_
  rotate_left
  · intro W hSw
    try dsimp only at hSw
    go_simp
    all_goals (with_reducible rfl)
  try simp only [Act.put, List.setIfInBounds_toArray, List.set_cons_zero, List.set_cons_succ]
  refine wpAnyH_take (i := 3) (oi := ⟨some 127, _, _, _, _, _⟩) (v := ?_) rfl (by kernel_rfl) (by kernel_rfl) (by kernel_rfl) (fun _ _ _ h => h) (Or.inl ⟨by kernel_rfl, ?_⟩) (by assumption) ?_
  rotate_left
  · intro W hSw
    try dsimp only at hSw
    go_simp
    all_goals (with_reducible rfl)
  try simp only [Act.put, List.setIfInBounds_toArray, List.set_cons_zero, List.set_cons_succ]
  refine wpAnyH_take (i := 4) (oi := ⟨some 128, _, _, _, _, _⟩) (v := ?_) rfl (by kernel_rfl) (by kernel_rfl) (by kernel_rfl) (fun _ _ _ h => h) (Or.inl ⟨by kernel_rfl, ?_⟩) (by assumption) ?_
  rotate_left
  · intro W hSw
    try dsimp only at hSw
    go_simp
    all_goals (with_reducible rfl)
  try simp only [Act.put, List.setIfInBounds_toArray, List.set_cons_zero, List.set_cons_succ]
  refine wpAnyH_ready (rs := [5]) (by kernel_rfl) (by simp) ?_
  refine AllReadyH.cons (o := { dst := some 129, op := Go.Op.call { callee := Go.Callee.value (Go.Operand.func 23), args := #[Go.Operand.tmp 128], argTypes := #[3] }, type := 4, pos := "ref.go:78", after := #[{ on := 4, ground := Go.Ground.data }], guard := none }) rfl (fun K hK => ?_) AllReadyH.nil
  go_simp
  refine (HTY.out _).mono ?_
  rintro e w1 ⟨rfl, rfl⟩
  refine hK.out _ _ (by exact hHeld) (fun hHeld2 => ?_)
  clear hK K hHeld
  have hHeld := hHeld2
  clear hHeld2
  try simp only [Act.put, List.setIfInBounds_toArray, List.set_cons_zero, List.set_cons_succ]
  refine wpAnyH_take (i := 6) (oi := ⟨some 130, _, _, _, _, _⟩) (v := ?_) rfl (by kernel_rfl) (by kernel_rfl) (by kernel_rfl) (fun _ _ _ h => h) (Or.inl ⟨by kernel_rfl, ?_⟩) (by assumption) ?_
  rotate_left
  · intro W hSw
    try dsimp only at hSw
    go_simp
    all_goals (with_reducible rfl)
  try simp only [Act.put, List.setIfInBounds_toArray, List.set_cons_zero, List.set_cons_succ]
  refine wpAnyH_take (i := 7) (oi := ⟨some 131, _, _, _, _, _⟩) (v := ?_) rfl (by kernel_rfl) (by kernel_rfl) (by kernel_rfl) (fun _ _ _ h => h) (Or.inl ⟨by kernel_rfl, ?_⟩) (by assumption) ?_
  rotate_left
  · intro W hSw
    try dsimp only at hSw
    go_simp
    all_goals (with_reducible rfl)
  try simp only [Act.put, List.setIfInBounds_toArray, List.set_cons_zero, List.set_cons_succ]
  refine wpAnyH_take (i := 8) (oi := ⟨some 132, _, _, _, _, _⟩) (v := ?_) rfl (by kernel_rfl) (by kernel_rfl) (by kernel_rfl) (fun _ _ _ h => h) (Or.inl ⟨by kernel_rfl, ?_⟩) (by assumption) ?_
  rotate_left
  · intro W hSw
    try dsimp only at hSw
    go_simp
    all_goals (with_reducible rfl)
  try simp only [Act.put, List.setIfInBounds_toArray, List.set_cons_zero, List.set_cons_succ]
  refine wpAnyH_take (i := 9) (oi := ⟨some 133, _, _, _, _, _⟩) (v := ?_) rfl (by kernel_rfl) (by kernel_rfl) (by kernel_rfl) (fun _ _ _ h => h) (Or.inl ⟨by kernel_rfl, ?_⟩) (by assumption) ?_
  rotate_left
  · intro W hSw
    try dsimp only at hSw
    go_simp
    all_goals (with_reducible rfl)
  try simp only [Act.put, List.setIfInBounds_toArray, List.set_cons_zero, List.set_cons_succ]
  refine wpAnyH_take (i := 10) (oi := ⟨some 134, _, _, _, _, _⟩) (v := ?_) rfl (by kernel_rfl) (by kernel_rfl) (by kernel_rfl) (fun _ _ _ h => h) (Or.inl ⟨by kernel_rfl, ?_⟩) (by assumption) ?_
  rotate_left
  · intro W hSw
    try dsimp only at hSw
    go_simp
    all_goals (with_reducible rfl)
  try simp only [Act.put, List.setIfInBounds_toArray, List.set_cons_zero, List.set_cons_succ]
  refine wpAnyH_take (i := 11) (oi := ⟨some 135, _, _, _, _, _⟩) (v := ?_) rfl (by kernel_rfl) (by kernel_rfl) (by kernel_rfl) (fun _ _ _ h => h) (Or.inl ⟨by kernel_rfl, ?_⟩) (by assumption) ?_
  rotate_left
  · intro W hSw
    try dsimp only at hSw
    go_simp
    all_goals (with_reducible rfl)
  try simp only [Act.put, List.setIfInBounds_toArray, List.set_cons_zero, List.set_cons_succ]
  refine wpAnyH_take (i := 12) (oi := ⟨some 136, _, _, _, _, _⟩) (v := ?_) rfl (by kernel_rfl) (by kernel_rfl) (by kernel_rfl) (fun _ _ _ h => h) (Or.inl ⟨by kernel_rfl, ?_⟩) (by assumption) ?_
  rotate_left
  · intro W hSw
    try dsimp only at hSw
    go_simp
    all_goals (with_reducible rfl)
  try simp only [Act.put, List.setIfInBounds_toArray, List.set_cons_zero, List.set_cons_succ]
  refine wpAnyH_take (i := 13) (oi := ⟨some 137, _, _, _, _, _⟩) (v := ?_) rfl (by kernel_rfl) (by kernel_rfl) (by kernel_rfl) (fun _ _ _ h => h) (Or.inl ⟨by kernel_rfl, ?_⟩) (by assumption) ?_
  rotate_left
  · intro W hSw
    try dsimp only at hSw
    go_simp
    all_goals (with_reducible rfl)
  try simp only [Act.put, List.setIfInBounds_toArray, List.set_cons_zero, List.set_cons_succ]
  refine wpAnyH_take (i := 14) (oi := ⟨some 138, _, _, _, _, _⟩) (v := ?_) rfl (by kernel_rfl) (by kernel_rfl) (by kernel_rfl) (fun _ _ _ h => h) (Or.inl ⟨by kernel_rfl, ?_⟩) (by assumption) ?_
  rotate_left
  · intro W hSw
    try dsimp only at hSw
    go_simp
    all_goals (with_reducible rfl)
  try simp only [Act.put, List.setIfInBounds_toArray, List.set_cons_zero, List.set_cons_succ]
  refine wpAnyH_take (i := 15) (oi := ⟨some 139, _, _, _, _, _⟩) (v := ?_) rfl (by kernel_rfl) (by kernel_rfl) (by kernel_rfl) (fun _ _ _ h => h) (Or.inl ⟨by kernel_rfl, ?_⟩) (by assumption) ?_
  rotate_left
  · intro W hSw
    try dsimp only at hSw
    go_simp
    all_goals (with_reducible rfl)
  try simp only [Act.put, List.setIfInBounds_toArray, List.set_cons_zero, List.set_cons_succ]
  refine wpAnyH_take (i := 16) (oi := ⟨some 140, _, _, _, _, _⟩) (v := ?_) rfl (by kernel_rfl) (by kernel_rfl) (by kernel_rfl) (fun _ _ _ h => h) (Or.inl ⟨by kernel_rfl, ?_⟩) (by assumption) ?_
  rotate_left
  · intro W hSw
    try dsimp only at hSw
    go_simp
    all_goals (with_reducible rfl)
  try simp only [Act.put, List.setIfInBounds_toArray, List.set_cons_zero, List.set_cons_succ]
  refine wpAnyH_take (i := 17) (oi := ⟨some 141, _, _, _, _, _⟩) (v := ?_) rfl (by kernel_rfl) (by kernel_rfl) (by kernel_rfl) (fun _ _ _ h => h) (Or.inl ⟨by kernel_rfl, ?_⟩) (by assumption) ?_
  rotate_left
  · intro W hSw
    try dsimp only at hSw
    go_simp
    all_goals (with_reducible rfl)
  try simp only [Act.put, List.setIfInBounds_toArray, List.set_cons_zero, List.set_cons_succ]
  refine wpAnyH_take (i := 18) (oi := ⟨some 142, _, _, _, _, _⟩) (v := ?_) rfl (by kernel_rfl) (by kernel_rfl) (by kernel_rfl) (fun _ _ _ h => h) (Or.inl ⟨by kernel_rfl, ?_⟩) (by assumption) ?_
  rotate_left
  · intro W hSw
    try dsimp only at hSw
    go_simp
    all_goals (with_reducible rfl)
  try simp only [Act.put, List.setIfInBounds_toArray, List.set_cons_zero, List.set_cons_succ]
  refine wpAnyH_take (i := 19) (oi := ⟨some 143, _, _, _, _, _⟩) (v := ?_) rfl (by kernel_rfl) (by kernel_rfl) (by kernel_rfl) (fun _ _ _ h => h) (Or.inl ⟨by kernel_rfl, ?_⟩) (by assumption) ?_
  rotate_left
  · intro W hSw
    try dsimp only at hSw
    go_simp
    all_goals (with_reducible rfl)
  try simp only [Act.put, List.setIfInBounds_toArray, List.set_cons_zero, List.set_cons_succ]
  refine wpAnyH_take (i := 20) (oi := ⟨some 144, _, _, _, _, _⟩) (v := ?_) rfl (by kernel_rfl) (by kernel_rfl) (by kernel_rfl) (fun _ _ _ h => h) (Or.inl ⟨by kernel_rfl, ?_⟩) (by assumption) ?_
  rotate_left
  · intro W hSw
    try dsimp only at hSw
    go_simp
    all_goals (with_reducible rfl)
  try simp only [Act.put, List.setIfInBounds_toArray, List.set_cons_zero, List.set_cons_succ]
  refine wpAnyH_take (i := 21) (oi := ⟨some 145, _, _, _, _, _⟩) (v := ?_) rfl (by kernel_rfl) (by kernel_rfl) (by kernel_rfl) (fun _ _ _ h => h) (Or.inl ⟨by kernel_rfl, ?_⟩) (by assumption) ?_
  rotate_left
  · intro W hSw
    try dsimp only at hSw
    go_simp
    all_goals (with_reducible rfl)
  try simp only [Act.put, List.setIfInBounds_toArray, List.set_cons_zero, List.set_cons_succ]
  refine wpAnyH_take (i := 22) (oi := ⟨some 146, _, _, _, _, _⟩) (v := ?_) rfl (by kernel_rfl) (by kernel_rfl) (by kernel_rfl) (fun _ _ _ h => h) (Or.inl ⟨by kernel_rfl, ?_⟩) (by assumption) ?_
  rotate_left
  · intro W hSw
    try dsimp only at hSw
    go_simp
    all_goals (with_reducible rfl)
  try simp only [Act.put, List.setIfInBounds_toArray, List.set_cons_zero, List.set_cons_succ]
  refine wpAnyH_take (i := 23) (oi := ⟨some 147, _, _, _, _, _⟩) (v := ?_) rfl (by kernel_rfl) (by kernel_rfl) (by kernel_rfl) (fun _ _ _ h => h) (Or.inl ⟨by kernel_rfl, ?_⟩) (by assumption) ?_
  rotate_left
  · intro W hSw
    try dsimp only at hSw
    go_simp
    all_goals (with_reducible rfl)
  try simp only [Act.put, List.setIfInBounds_toArray, List.set_cons_zero, List.set_cons_succ]
  refine wpAnyH_take (i := 24) (oi := ⟨some 148, _, _, _, _, _⟩) (v := ?_) rfl (by kernel_rfl) (by kernel_rfl) (by kernel_rfl) (fun _ _ _ h => h) (Or.inl ⟨by kernel_rfl, ?_⟩) (by assumption) ?_
  rotate_left
  · intro W hSw
    try dsimp only at hSw
    go_simp
    all_goals (with_reducible rfl)
  try simp only [Act.put, List.setIfInBounds_toArray, List.set_cons_zero, List.set_cons_succ]
  refine wpAnyH_take (i := 25) (oi := ⟨some 149, _, _, _, _, _⟩) (v := ?_) rfl (by kernel_rfl) (by kernel_rfl) (by kernel_rfl) (fun _ _ _ h => h) (Or.inl ⟨by kernel_rfl, ?_⟩) (by assumption) ?_
  rotate_left
  · intro W hSw
    try dsimp only at hSw
    go_simp
    all_goals (with_reducible rfl)
  try simp only [Act.put, List.setIfInBounds_toArray, List.set_cons_zero, List.set_cons_succ]
  refine wpAnyH_take (i := 26) (oi := ⟨some 150, _, _, _, _, _⟩) (v := ?_) rfl (by kernel_rfl) (by kernel_rfl) (by kernel_rfl) (fun _ _ _ h => h) (Or.inl ⟨by kernel_rfl, ?_⟩) (by assumption) ?_
  rotate_left
  · intro W hSw
    try dsimp only at hSw
    go_simp
    all_goals (with_reducible rfl)
  try simp only [Act.put, List.setIfInBounds_toArray, List.set_cons_zero, List.set_cons_succ]
  refine wpAnyH_take (i := 27) (oi := ⟨some 151, _, _, _, _, _⟩) (v := ?_) rfl (by kernel_rfl) (by kernel_rfl) (by kernel_rfl) (fun _ _ _ h => h) (Or.inl ⟨by kernel_rfl, ?_⟩) (by assumption) ?_
  rotate_left
  · intro W hSw
    try dsimp only at hSw
    go_simp
    all_goals (with_reducible rfl)
  try simp only [Act.put, List.setIfInBounds_toArray, List.set_cons_zero, List.set_cons_succ]
  refine wpAnyH_take (i := 28) (oi := ⟨some 152, _, _, _, _, _⟩) (v := ?_) rfl (by kernel_rfl) (by kernel_rfl) (by kernel_rfl) (fun _ _ _ h => h) (Or.inl ⟨by kernel_rfl, ?_⟩) (by assumption) ?_
  rotate_left
  · intro W hSw
    try dsimp only at hSw
    go_simp
    all_goals (with_reducible rfl)
  try simp only [Act.put, List.setIfInBounds_toArray, List.set_cons_zero, List.set_cons_succ]
  refine wpAnyH_take (i := 29) (oi := ⟨some 153, _, _, _, _, _⟩) (v := ?_) rfl (by kernel_rfl) (by kernel_rfl) (by kernel_rfl) (fun _ _ _ h => h) (Or.inl ⟨by kernel_rfl, ?_⟩) (by assumption) ?_
  rotate_left
  · intro W hSw
    try dsimp only at hSw
    go_simp
    all_goals (with_reducible rfl)
  try simp only [Act.put, List.setIfInBounds_toArray, List.set_cons_zero, List.set_cons_succ]
  refine wpAnyH_take (i := 30) (oi := ⟨some 154, _, _, _, _, _⟩) (v := ?_) rfl (by kernel_rfl) (by kernel_rfl) (by kernel_rfl) (fun _ _ _ h => h) (Or.inl ⟨by kernel_rfl, ?_⟩) (by assumption) ?_
  rotate_left
  · intro W hSw
    try dsimp only at hSw
    go_simp
    all_goals (with_reducible rfl)
  try simp only [Act.put, List.setIfInBounds_toArray, List.set_cons_zero, List.set_cons_succ]
  refine wpAnyH_ready (rs := [31]) (by kernel_rfl) (by simp) ?_
  refine AllReadyH.cons (o := { dst := some 155, op := Go.Op.call { callee := Go.Callee.value (Go.Operand.func 21), args := #[Go.Operand.tmp 154], argTypes := #[22] }, type := 4, pos := "ref.go:78", after := #[{ on := 30, ground := Go.Ground.data }, { on := 28, ground := Go.Ground.chain }, { on := 28, ground := Go.Ground.guard }], guard := some (28, true) }) rfl (fun K hK => ?_) AllReadyH.nil
  go_simp
  refine (HSZ.out _ HBX.out.below).mono ?_
  rintro e w1 ⟨rfl, rfl⟩
  refine hK.out _ _ (by exact hHeld) (fun hHeld2 => ?_)
  clear hK K hHeld
  have hHeld := hHeld2
  clear hHeld2
  try simp only [Act.put, List.setIfInBounds_toArray, List.set_cons_zero, List.set_cons_succ]
  refine wpAnyH_take (i := 32) (oi := ⟨some 156, _, _, _, _, _⟩) (v := ?_) rfl (by kernel_rfl) (by kernel_rfl) (by kernel_rfl) (fun _ _ _ h => h) (Or.inl ⟨by kernel_rfl, ?_⟩) (by assumption) ?_
  rotate_left
  · intro W hSw
    try dsimp only at hSw
    go_simp
    all_goals (with_reducible rfl)
  try simp only [Act.put, List.setIfInBounds_toArray, List.set_cons_zero, List.set_cons_succ]
  refine wpAnyH_take (i := 33) (oi := ⟨some 157, _, _, _, _, _⟩) (v := ?_) rfl (by kernel_rfl) (by kernel_rfl) (by kernel_rfl) (fun _ _ _ h => h) (Or.inl ⟨by kernel_rfl, ?_⟩) (by assumption) ?_
  rotate_left
  · intro W hSw
    try dsimp only at hSw
    go_simp
    all_goals (with_reducible rfl)
  try simp only [Act.put, List.setIfInBounds_toArray, List.set_cons_zero, List.set_cons_succ]
  refine wpAnyH_take (i := 34) (oi := ⟨some 158, _, _, _, _, _⟩) (v := ?_) rfl (by kernel_rfl) (by kernel_rfl) (by kernel_rfl) (fun _ _ _ h => h) (Or.inl ⟨by kernel_rfl, ?_⟩) (by assumption) ?_
  rotate_left
  · intro W hSw
    try dsimp only at hSw
    go_simp
    all_goals (with_reducible rfl)
  try simp only [Act.put, List.setIfInBounds_toArray, List.set_cons_zero, List.set_cons_succ]
  refine wpAnyH_take (i := 35) (oi := ⟨some 159, _, _, _, _, _⟩) (v := ?_) rfl (by kernel_rfl) (by kernel_rfl) (by kernel_rfl) (fun _ _ _ h => h) (Or.inl ⟨by kernel_rfl, ?_⟩) (by assumption) ?_
  rotate_left
  · intro W hSw
    try dsimp only at hSw
    go_simp
    all_goals (with_reducible rfl)
  try simp only [Act.put, List.setIfInBounds_toArray, List.set_cons_zero, List.set_cons_succ]
  refine wpAnyH_take (i := 36) (oi := ⟨some 160, _, _, _, _, _⟩) (v := ?_) rfl (by kernel_rfl) (by kernel_rfl) (by kernel_rfl) (fun _ _ _ h => h) (Or.inl ⟨by kernel_rfl, ?_⟩) (by assumption) ?_
  rotate_left
  · intro W hSw
    try dsimp only at hSw
    go_simp
    all_goals (with_reducible rfl)
  try simp only [Act.put, List.setIfInBounds_toArray, List.set_cons_zero, List.set_cons_succ]
  refine wpAnyH_take (i := 37) (oi := ⟨some 161, _, _, _, _, _⟩) (v := ?_) rfl (by kernel_rfl) (by kernel_rfl) (by kernel_rfl) (fun _ _ _ h => h) (Or.inl ⟨by kernel_rfl, ?_⟩) (by assumption) ?_
  rotate_left
  · intro W hSw
    try dsimp only at hSw
    go_simp
    all_goals (with_reducible rfl)
  try simp only [Act.put, List.setIfInBounds_toArray, List.set_cons_zero, List.set_cons_succ]
  refine wpAnyH_ready (rs := [38]) (by kernel_rfl) (by simp) ?_
  refine AllReadyH.cons (o := { dst := some 162, op := Go.Op.call { callee := Go.Callee.value (Go.Operand.func 9), args := #[Go.Operand.tmp 159, Go.Operand.tmp 161], argTypes := #[22, 22] }, type := 4, pos := "ref.go:78", after := #[{ on := 35, ground := Go.Ground.data }, { on := 37, ground := Go.Ground.data }, { on := 33, ground := Go.Ground.chain }, { on := 33, ground := Go.Ground.guard }], guard := some (33, true) }) rfl (fun K hK => ?_) AllReadyH.nil
  go_simp
  refine (HUN.out _ HBX.out).mono ?_
  rintro e w2 ⟨rfl, hb2⟩
  have HB2 := Lib.hid (HBX.out.step hb2)
  clear hb2
  refine hK.out _ _ (by exact HCS.out _ HB2.out) (fun hHeld2 => ?_)
  clear hK K hHeld
  have hHeld := hHeld2
  clear hHeld2
  try simp only [Act.put, List.setIfInBounds_toArray, List.set_cons_zero, List.set_cons_succ]
  refine wpAnyH_take (i := 39) (oi := ⟨some 163, _, _, _, _, _⟩) (v := ?_) rfl (by kernel_rfl) (by kernel_rfl) (by kernel_rfl) (fun _ _ _ h => h) (Or.inl ⟨by kernel_rfl, ?_⟩) (by assumption) ?_
  rotate_left
  · intro W hSw
    try dsimp only at hSw
    go_simp
    all_goals (with_reducible rfl)
  try simp only [Act.put, List.setIfInBounds_toArray, List.set_cons_zero, List.set_cons_succ]
  refine wpAnyH_take (i := 40) (oi := ⟨some 164, _, _, _, _, _⟩) (v := ?_) rfl (by kernel_rfl) (by kernel_rfl) (by kernel_rfl) (fun _ _ _ h => h) (Or.inl ⟨by kernel_rfl, ?_⟩) (by assumption) ?_
  rotate_left
  · intro W hSw
    try dsimp only at hSw
    go_simp
    all_goals (with_reducible rfl)
  try simp only [Act.put, List.setIfInBounds_toArray, List.set_cons_zero, List.set_cons_succ]
  refine wpAnyH_take (i := 41) (oi := ⟨some 165, _, _, _, _, _⟩) (v := ?_) rfl (by kernel_rfl) (by kernel_rfl) (by kernel_rfl) (fun _ _ _ h => h) (Or.inl ⟨by kernel_rfl, ?_⟩) (by assumption) ?_
  rotate_left
  · intro W hSw
    try dsimp only at hSw
    go_simp
    all_goals (with_reducible rfl)
  try simp only [Act.put, List.setIfInBounds_toArray, List.set_cons_zero, List.set_cons_succ]
  refine wpAnyH_ready (rs := [42]) (by kernel_rfl) (by simp) ?_
  refine AllReadyH.cons (o := { dst := some 166, op := Go.Op.call { callee := Go.Callee.value (Go.Operand.func 24), args := #[Go.Operand.const (Go.Value.int Go.IntKind.i64 6), Go.Operand.tmp 165], argTypes := #[3, 38] }, type := 4, pos := "ref.go:78", after := #[{ on := 41, ground := Go.Ground.data }, { on := 40, ground := Go.Ground.chain }, { on := 40, ground := Go.Ground.guard }], guard := some (40, true) }) rfl (fun K hK => ?_) AllReadyH.nil
  go_simp
  refine (HDA.out _ HB2.out).mono ?_
  rintro e w3 ⟨rfl, hb3⟩
  have HB3 := Lib.hid (HB2.out.step hb3)
  clear hb3
  refine hK.out _ _ (by exact HCS.out _ HB3.out) (fun hHeld2 => ?_)
  clear hK K hHeld
  have hHeld := hHeld2
  clear hHeld2
  try simp only [Act.put, List.setIfInBounds_toArray, List.set_cons_zero, List.set_cons_succ]
  refine wpAnyH_take (i := 43) (oi := ⟨some 167, _, _, _, _, _⟩) (v := ?_) rfl (by kernel_rfl) (by kernel_rfl) (by kernel_rfl) (fun _ _ _ h => h) (Or.inl ⟨by kernel_rfl, ?_⟩) (by assumption) ?_
  rotate_left
  · intro W hSw
    try dsimp only at hSw
    go_simp
    all_goals (with_reducible rfl)
  try simp only [Act.put, List.setIfInBounds_toArray, List.set_cons_zero, List.set_cons_succ]
  refine wpAnyH_take (i := 44) (oi := ⟨some 2, _, _, _, _, _⟩) (v := ?_) rfl (by kernel_rfl) (by kernel_rfl) (by kernel_rfl) (fun _ _ _ h => h) (Or.inl ⟨by kernel_rfl, ?_⟩) (by assumption) ?_
  rotate_left
  · intro W hSw
    try dsimp only at hSw
    go_simp
    all_goals (with_reducible rfl)
  try simp only [Act.put, List.setIfInBounds_toArray, List.set_cons_zero, List.set_cons_succ]
  refine wpAnyH_done (by kernel_rfl) ?_ _
  go_wp2
  go_ret
  exact ⟨rfl, HB3.out.below⟩

end Go.Proofs.YthppgofpbpjglaaGreat

namespace Go.Proofs.YthppgofpbpjglaaGreat
open Go.RowKit

theorem noB_parts {f : Fc} (h : noB f = true) : (decide (f.h.knd = 2) == typedB f.h.typ) = true ∧ (f.h.knd = 2 ∨ f.h.typ = 0) ∧ f.set.length = 0 ∧ f.h.ttl ≤ 10800 ∧ soundN f.zone = true ∧ underN f.name f.zone = true ∧ soundD 6 f.soa = true := by
  unfold noB at h
  simpa only [Bool.and_eq_true, Bool.or_eq_true, decide_eq_true_eq] using h
theorem soundF_parts {f : Fc} (h : soundF f = true) : headB f.name f.h = true ∧ ((f.h.knd = 1 ∧ hasB f = true) ∨ ((f.h.knd = 2 ∨ f.h.knd = 3) ∧ noB f = true)) := by
  unfold soundF at h
  rw [Bool.and_eq_true] at h
  refine ⟨h.1, ?_⟩
  have h2 := h.2
  split at h2
  · exact .inl ⟨by assumption, h2⟩
  · split at h2
    · exact .inr ⟨by assumption, h2⟩
    · cases h2

theorem refsound_yes (w : World) (x : FV) (hx : FAt w w.heap.size x) (hi : FIn x) (hs : soundF x.fact = true) : Calls Tryz.prog 8 #[x.val] w (Gave w (.bool true)) := by
  obtain ⟨hh, h⟩ := soundF_parts hs
  rcases h with ⟨h1, h2⟩ | ⟨h1, h2⟩
  · have h := fsound_has w x hx hi hh h1
    rwa [h2] at h
  · obtain ⟨p1, p2, p3, p4, p5, p6, p7⟩ := noB_parts h2
    have p3' : x.sp.length = 0 := by have e : (dats x.sp).length = 0 := p3; rwa [length_dats] at e
    rcases h1 with h1 | h1
    · have e : typedB x.h.typ = true := by
        have e1 : (decide (x.h.knd = 2) == typedB x.h.typ) = true := p1
        have e2 : x.h.knd = 2 := h1
        rw [decide_eq_true e2] at e1
        simpa using e1
      exact fno_2h w x hx hi hh h1 e p3' p4 p5 p6 p7
    · have e2 : x.h.knd = 3 := h1
      have e : typedB x.h.typ = false := by
        have e1 : (decide (x.h.knd = 2) == typedB x.h.typ) = true := p1
        rw [decide_eq_false (show ¬ x.h.knd = 2 by omega)] at e1
        simpa using e1
      have e0 : x.h.typ = 0 := by
        rcases p2 with p | p
        · have : x.h.knd = 2 := p
          omega
        · exact p
      exact fno_3h w x hx hi hh h1 e e0 p3' p4 p5 p6 p7

end Go.Proofs.YthppgofpbpjglaaGreat

namespace Go.Proofs.YthppgofpbpjglaaGreat
open Go.RowKit

def emptyV : DV := ⟨none, none, none, none, none, 0, 0, 0, 0, 0⟩
def emptyT : Dt := ⟨[], [], [], [], []⟩
theorem fnil_at (w : World) (H : Nat) : DataAt w H emptyV emptyT := ⟨Row.empty _ _ _, Row.empty _ _ _, Row.empty _ _ _, Row.empty _ _ _, Row.empty _ _ _, Nat.le_refl _, Nat.le_refl _, Nat.le_refl _, Nat.le_refl _, Nat.le_refl _, Nat.zero_le _, Nat.zero_le _⟩
theorem fnil_wide : Wide emptyT := ⟨⟨Nat.zero_le _, fun _ h => absurd h (Nat.not_lt_zero _)⟩, ⟨Nat.zero_le _, fun _ h => absurd h (Nat.not_lt_zero _)⟩, Nat.zero_le _⟩
theorem eqN_nil (n : List (List UInt8)) : eqN n [] = decide (n.length = 0) := by
  unfold eqN lowN
  rw [decide_eq_decide]
  simp
theorem flen_nil {α : Type} [DecidableEq α] (l : List α) : decide (l = []) = decide (l.length = 0) := by rw [decide_eq_decide]; exact List.length_eq_zero_iff.symm
theorem same_nil (d : Dt) : sameD d emptyT = emptyD d := by
  show (decide (d.bytes = []) && (decide (d.nums = []) && (decide (d.texts = []) && (eqN d.host [] && eqN d.mail [])))) = _
  unfold emptyD
  rw [eqN_nil, eqN_nil, flen_nil, flen_nil, flen_nil, Bool.eq_iff_iff]
  simp only [Bool.and_eq_true]
  constructor
  · exact fun ⟨a, b, c, d, e⟩ => ⟨a, d, e, b, c⟩
  · exact fun ⟨a, d, e, b, c⟩ => ⟨a, b, c, d, e⟩
theorem fitT_has (t : Int) : fitT t false = (decide (0 ≤ t) && decide (t ≤ 604800)) := by
  unfold fitT clampI
  rw [Bool.eq_iff_iff]
  simp only [Bool.and_eq_true, decide_eq_true_eq, beq_iff_eq]
  split
  · omega
  · rw [if_neg (by rintro ⟨h, _⟩; cases h)]
    split <;> omega
theorem fitT_no (t : Int) : fitT t true = (decide (0 ≤ t) && decide (t ≤ 10800)) := by
  unfold fitT clampI
  rw [Bool.eq_iff_iff]
  simp only [Bool.and_eq_true, decide_eq_true_eq, beq_iff_eq]
  split
  · omega
  · split
    · omega
    · rename_i h
      have h2 : ¬ 10800 < t := fun hh => h ⟨trivial, hh⟩
      split <;> omega

/-- What soundNot answers. -/
def notB (f : Fc) : Bool := fitT f.h.ttl true && (decide (f.set.length = 0) && (soundN f.zone && (underN f.name f.zone && soundD 6 f.soa)))
def headR (n : List (List UInt8)) (h : Fh) : Bool := soundN n && (decide (1 ≤ h.rank) && (decide (h.rank ≤ 4) && timeB h.got))
def hasR (f : Fc) : Bool := typedB f.h.typ && (fitT f.h.ttl false && (setKB f.h.typ f.set && (decide (f.zone.length = 0) && sameD f.soa emptyT)))
theorem soundF_headR {f : Fc} (h : headR f.name f.h = false) : soundF f = false := by
  apply soundF_head
  cases hh : headB f.name f.h with
  | false => rfl
  | true =>
    obtain ⟨a1, a2, a3, a4, _⟩ := headB_parts hh
    unfold headR at h
    rw [a1, decide_eq_true a2, decide_eq_true a3, a4] at h
    cases h
theorem headB_of {n : List (List UInt8)} {h : Fh} (hh : headR n h = true) : headB n h = (decide (0 ≤ h.ttl) && decide (h.ttl ≤ 604800)) := by
  unfold headR at hh
  simp only [Bool.and_eq_true] at hh
  obtain ⟨a1, a2, a3, a4⟩ := hh
  unfold headB
  rw [a1, a2, a3, a4]
  rfl
theorem soundF_hasR {f : Fc} (h : headR f.name f.h = true) (k : f.h.knd = 1) : soundF f = hasR f := by
  unfold soundF hasR hasB setKB
  rw [if_pos k, headB_of h, fitT_has, same_nil, Bool.eq_iff_iff]
  simp only [Bool.and_eq_true]
  constructor
  · exact fun ⟨a, b, c, d, e, f, g⟩ => ⟨b, a, ⟨c, d, g⟩, e, f⟩
  · exact fun ⟨b, a, ⟨c, d, g⟩, e, f⟩ => ⟨a, b, c, d, e, f, g⟩
theorem soundF_noR2 {f : Fc} (h : headR f.name f.h = true) (k : f.h.knd = 2) : soundF f = (typedB f.h.typ && notB f) := by
  unfold soundF notB noB
  rw [if_neg (by omega), if_pos (.inl k), headB_of h, fitT_no, decide_eq_true k, Bool.eq_iff_iff]
  simp only [Bool.and_eq_true, decide_eq_true_eq, beq_iff_eq, Bool.true_or]
  constructor
  · exact fun ⟨⟨a, b⟩, c, _, d, e, f, g, h⟩ => ⟨c.symm, ⟨a, e⟩, d, f, g, h⟩
  · exact fun ⟨c, ⟨a, e⟩, d, f, g, h⟩ => ⟨⟨a, by omega⟩, c.symm, trivial, d, e, f, g, h⟩
theorem soundF_noR3 {f : Fc} (h : headR f.name f.h = true) (k : f.h.knd = 3) : soundF f = (decide (f.h.typ = 0) && notB f) := by
  unfold soundF notB noB
  rw [if_neg (by omega), if_pos (.inr k), headB_of h, fitT_no, decide_eq_false (show ¬ f.h.knd = 2 by omega), Bool.eq_iff_iff]
  simp only [Bool.and_eq_true, decide_eq_true_eq, beq_iff_eq, Bool.false_or]
  constructor
  · exact fun ⟨⟨a, b⟩, c, i, d, e, f, g, h⟩ => ⟨i, ⟨a, e⟩, d, f, g, h⟩
  · rintro ⟨i, ⟨a, e⟩, d, f, g, h⟩
    exact ⟨⟨a, by omega⟩, by rw [i]; rfl, i, d, e, f, g, h⟩

/-- The box of Sound. -/
structure FBox (w : World) (x : FV) (W : World) : Prop where
  f : Whole W w.heap.size 40 (cellsF x)
  below : Below w.heap.size w W
  size : w.heap.size + 1 ≤ W.heap.size
theorem FBox.step {w : World} {x : FV} {W W' : World} (h : FBox w x W) (hb : Below W.heap.size W W') : FBox w x W' :=
  ⟨h.f.below hb h.f.lt, h.below.trans (hb.mono (by have := h.size; omega)), Nat.le_trans h.size hb.size⟩
theorem FBox.made (w : World) (x : FV) : FBox w x (w.alloc (.cells #[.slice x.A x.name.length x.c, .int .i64 x.h.typ, .int .i64 x.h.knd, .int .i64 x.h.rank, .int .i64 x.h.got, .int .i64 x.h.ttl, .slice x.sA x.sp.length x.sc, .slice x.zA x.zone.length x.zc, .slice x.d.Ab x.soa.bytes.length x.d.cb, .slice x.d.Ah x.soa.host.length x.d.ch, .slice x.d.Am x.soa.mail.length x.d.cm, .slice x.d.An x.soa.nums.length x.d.cn, .slice x.d.At x.soa.texts.length x.d.ct] 40)) :=
  ⟨Whole.made w (cellsF x) _, (Below.refl _ _).alloc (Nat.le_refl _) _, by simp⟩
/-- Rows that are not too long. -/
structure FSz (x : FV) : Prop where
  nl : x.name.length ≤ 300
  zl : x.zone.length ≤ 300
  s : ∀ p ∈ x.sp, p.2.host.length ≤ 300 ∧ p.2.mail.length ≤ 300
  d : x.soa.host.length ≤ 300 ∧ x.soa.mail.length ≤ 300

set_option maxRecDepth 20000 in
set_option maxHeartbeats 4000000 in
theorem fsoundNot_any (w : World) (x : FV) (hx : FAt w w.heap.size x) (hi : FIn x) (hs : FSz x) (hn : soundN x.name = true) : Calls Tryz.prog 32 #[x.val] w (Gave w (.bool (notB x.fact))) := by
  have HS := Lib.hid (show notB x.fact = (fitT x.h.ttl true && (decide (x.sp.length = 0) && (soundN x.zone && (underN x.name x.zone && soundD 6 x.soa)))) by unfold notB; show (fitT x.h.ttl true && (decide ((dats x.sp).length = 0) && _)) = _; rw [length_dats]; rfl)
  have HF := Lib.hid (fun W' => fitsT_any x.h.ttl true W')
  have HN := Lib.hid (fun W' (hb : FBox w x W') => sound_wide x.zA x.zone.length x.zc w.heap.size x.zone W' rfl (hx.z.below hb.below) (by have := hs.zl; omega) hi.z.2)
  have HU := Lib.hid (fun W' (hb : FBox w x W') (hz : soundN x.zone = true) => under_any x.A x.zA x.name.length x.zone.length x.c x.zc w.heap.size x.name x.zone W' rfl rfl (hx.n.below hb.below) (hx.z.below hb.below) (by have := hb.size; omega)
    (by have := (soundN_parts hn).2; unfold maxLen; omega) (by have := (soundN_parts hz).2; unfold maxLen; omega) hx.ln)
  have HD := Lib.hid (fun W' (hb : FBox w x W') => dsound_wide 6 x.d x.soa W' ((hx.d.below hb.below).mono (by have := hb.size; omega)) (by have := hs.d; omega) hi.d.w.h.2 (by have := hs.d; omega) hi.d.w.m.2 hi.d.w.t hi.d.t)
  have HB := Lib.hid (FBox.made w x)
  have hsl : x.sp.length ≤ maxLen := Nat.le_trans hx.ls hx.ks
  unfold maxLen at hsl
  clear hx hi hs hn
  go_enter Tryz.func32, Tryz.ntmps32
  go_wp2_with fail
  refine (HF.out _).mono ?_
  rintro e w1 ⟨rfl, rfl⟩
  cases h1 : fitT x.h.ttl true with
  | false =>
    rw [h1] at HS
    go_wp2
    go_ret
    exact ⟨by rw [HS.out]; rfl, HB.out.below⟩
  | true =>
  rw [h1] at HS
  by_cases h2 : x.sp.length = 0
  case neg =>
    have t : ((x.sp.length : Int) == 0) = false := by rw [beq_eq_false_iff_ne]; omega
    rw [decide_eq_false h2] at HS
    clear h2
    go_wp2
    go_ret
    exact ⟨by rw [HS.out]; rfl, HB.out.below⟩
  have t : ((x.sp.length : Int) == 0) = true := by rw [h2]; rfl
  rw [decide_eq_true h2] at HS
  clear h2
  go_wp2_with fail
  refine (HN.out _ HB.out).mono ?_
  rintro e w1 ⟨rfl, rfl⟩
  cases h3 : soundN x.zone with
  | false =>
    rw [h3] at HS
    go_wp2
    go_ret
    exact ⟨by rw [HS.out]; rfl, HB.out.below⟩
  | true =>
  rw [h3] at HS
  go_wp2_with fail
  refine (HU.out _ HB.out h3).mono ?_
  rintro e w2 ⟨rfl, hb2⟩
  have HB2 := Lib.hid (HB.out.step hb2)
  clear hb2
  cases h4 : underN x.name x.zone with
  | false =>
    rw [h4] at HS
    go_wp2
    go_ret
    exact ⟨by rw [HS.out]; rfl, HB2.out.below⟩
  | true =>
  rw [h4] at HS
  have d8 : w2.cell? ⟨w.heap.size, 8, none⟩ = some (.slice x.d.Ab x.soa.bytes.length x.d.cb) := HB2.out.f.cell 8
  have d9 : w2.cell? ⟨w.heap.size, 9, none⟩ = some (.slice x.d.Ah x.soa.host.length x.d.ch) := HB2.out.f.cell 9
  have d10 : w2.cell? ⟨w.heap.size, 10, none⟩ = some (.slice x.d.Am x.soa.mail.length x.d.cm) := HB2.out.f.cell 10
  have d11 : w2.cell? ⟨w.heap.size, 11, none⟩ = some (.slice x.d.An x.soa.nums.length x.d.cn) := HB2.out.f.cell 11
  have d12 : w2.cell? ⟨w.heap.size, 12, none⟩ = some (.slice x.d.At x.soa.texts.length x.d.ct) := HB2.out.f.cell 12
  go_wp2_with fail
  refine (HD.out _ HB2.out).mono ?_
  rintro e w3 ⟨rfl, hb3⟩
  have HB3 := Lib.hid (HB2.out.step hb3)
  clear hb3
  go_wp2
  go_ret
  exact ⟨by rw [HS.out]; simp, HB3.out.below⟩

set_option maxRecDepth 20000 in
set_option maxHeartbeats 8000000 in
theorem fsound_real (w : World) (x : FV) (hx : FAt w w.heap.size x) (hi : FIn x) (hs : FSz x) : Calls Tryz.prog 11 #[x.val] w (Gave w (.bool (soundF x.fact))) := by
  have HH := Lib.hid (show headR x.name x.h = (soundN x.name && (decide (1 ≤ x.h.rank) && (decide (x.h.rank ≤ 4) && timeB x.h.got))) from rfl)
  have HNO := Lib.hid (fun h => soundF_headR (f := x.fact) h)
  have HY1 := Lib.hid (fun h k => soundF_hasR (f := x.fact) h k)
  have HY2 := Lib.hid (fun h k => soundF_noR2 (f := x.fact) h k)
  have HY3 := Lib.hid (fun h k => soundF_noR3 (f := x.fact) h k)
  have HRT := Lib.hid (fun W' => ftime_any x.h.got W')
  have HKD := Lib.hid (fun W' => fkind_any x.h.typ W')
  have HFT := Lib.hid (fun W' => fitsT_any x.h.ttl false W')
  have HN := Lib.hid (fun W' (hb : FBox w x W') => sound_wide x.A x.name.length x.c w.heap.size x.name W' rfl (hx.n.below hb.below) (by have := hs.nl; omega) hi.n.2)
  have HST := Lib.hid (fun W' (hb : FBox w x W') => soundSet_any W' x.h.typ x.sA x.sc x.sp ((hx.s.below hb.below).mono (by have := hb.size; omega)) hi.s hs.s hx.ls hx.ks)
  have HNT := Lib.hid (fun W' (hb : FBox w x W') (hn : soundN x.name = true) => fsoundNot_any W' x ((hx.below hb.below).mono (by have := hb.size; omega)) hi hs hn)
  have HSM := Lib.hid (show ∀ W' (_ : FBox w x W'), Calls Tryz.prog 31 #[x.d.val x.soa, .agg #[.slice none 0 0, .slice none 0 0, .slice none 0 0, .slice none 0 0, .slice none 0 0]] W' (Gave W' (.bool (sameD x.soa emptyT))) from
    fun W' hb => dsame_wide x.d emptyV x.soa emptyT W' ((hx.d.below hb.below).mono (by have := hb.size; omega)) (fnil_at _ _) hi.d.w fnil_wide)
  have HB := Lib.hid (FBox.made w x)
  have HFC := Lib.hid (show hasR x.fact = (typedB x.h.typ && (fitT x.h.ttl false && (setKB x.h.typ (dats x.sp) && (decide (x.zone.length = 0) && sameD x.soa emptyT)))) from rfl)
  clear hx hi hs
  go_enter Tryz.func11, Tryz.ntmps11
  go_wp2_with fail
  refine (HN.out _ HB.out).mono ?_
  rintro e w1 ⟨rfl, rfl⟩
  cases h1 : soundN x.name with
  | false =>
    rw [h1] at HH
    go_wp2
    go_ret
    exact ⟨by rw [HNO.out (by rw [show headR x.fact.name x.fact.h = headR x.name x.h from rfl, HH.out]; rfl)]; rfl, HB.out.below⟩
  | true =>
  rw [h1] at HH
  by_cases h2 : x.h.rank < 1
  · have t2 : decide (x.h.rank < 1) = true := decide_eq_true h2
    rw [decide_eq_false (show ¬ 1 ≤ x.h.rank by omega)] at HH
    clear h2
    go_wp2
    go_ret
    exact ⟨by rw [HNO.out (by rw [show headR x.fact.name x.fact.h = headR x.name x.h from rfl, HH.out]; rfl)]; rfl, HB.out.below⟩
  have t2 : decide (x.h.rank < 1) = false := decide_eq_false h2
  rw [decide_eq_true (show 1 ≤ x.h.rank by omega)] at HH
  by_cases h3 : 4 < x.h.rank
  · have t3 : decide (4 < x.h.rank) = true := decide_eq_true h3
    rw [decide_eq_false (show ¬ x.h.rank ≤ 4 by omega)] at HH
    clear h2 h3
    go_wp2
    go_ret
    exact ⟨by rw [HNO.out (by rw [show headR x.fact.name x.fact.h = headR x.name x.h from rfl, HH.out]; rfl)]; rfl, HB.out.below⟩
  have t3 : decide (4 < x.h.rank) = false := decide_eq_false h3
  rw [decide_eq_true (show x.h.rank ≤ 4 by omega)] at HH
  clear h2 h3
  go_wp2_with fail
  refine (HRT.out _).mono ?_
  rintro e w1 ⟨rfl, rfl⟩
  cases h4 : timeB x.h.got with
  | false =>
    rw [h4] at HH
    go_wp2
    go_ret
    exact ⟨by rw [HNO.out (by rw [show headR x.fact.name x.fact.h = headR x.name x.h from rfl, HH.out]; rfl)]; rfl, HB.out.below⟩
  | true =>
  rw [h4] at HH
  have HHT := Lib.hid (show headR x.fact.name x.fact.h = true from HH.out)
  clear HH HNO HRT HN t2 t3
  by_cases k1 : x.h.knd = 1
  · have b1 : (x.h.knd == 1) = true := by rw [k1]; rfl
    have HV := Lib.hid ((HY1.out HHT.out k1).trans HFC.out)
    clear k1 HY1 HY2 HY3 HFC
    go_wp2_with fail
    refine (HKD.out _).mono ?_
    rintro e w1 ⟨rfl, rfl⟩
    cases h5 : typedB x.h.typ with
    | false =>
      rw [h5] at HV
      go_wp2
      go_ret
      exact ⟨by rw [HV.out]; rfl, HB.out.below⟩
    | true =>
    rw [h5] at HV
    go_wp2_with fail
    refine (HFT.out _).mono ?_
    rintro e w1 ⟨rfl, rfl⟩
    cases h6 : fitT x.h.ttl false with
    | false =>
      rw [h6] at HV
      go_wp2
      go_ret
      exact ⟨by rw [HV.out]; rfl, HB.out.below⟩
    | true =>
    rw [h6] at HV
    go_wp2_with fail
    refine (HST.out _ HB.out).mono ?_
    rintro e w2 ⟨rfl, hb2⟩
    have HB2 := Lib.hid (HB.out.step hb2)
    clear hb2
    cases h7 : setKB x.h.typ (dats x.sp) with
    | false =>
      rw [h7] at HV
      go_wp2
      go_ret
      exact ⟨by rw [HV.out]; rfl, HB2.out.below⟩
    | true =>
    rw [h7] at HV
    have d7 : w2.cell? ⟨w.heap.size, 7, none⟩ = some (.slice x.zA x.zone.length x.zc) := HB2.out.f.cell 7
    have d8 : w2.cell? ⟨w.heap.size, 8, none⟩ = some (.slice x.d.Ab x.soa.bytes.length x.d.cb) := HB2.out.f.cell 8
    have d9 : w2.cell? ⟨w.heap.size, 9, none⟩ = some (.slice x.d.Ah x.soa.host.length x.d.ch) := HB2.out.f.cell 9
    have d10 : w2.cell? ⟨w.heap.size, 10, none⟩ = some (.slice x.d.Am x.soa.mail.length x.d.cm) := HB2.out.f.cell 10
    have d11 : w2.cell? ⟨w.heap.size, 11, none⟩ = some (.slice x.d.An x.soa.nums.length x.d.cn) := HB2.out.f.cell 11
    have d12 : w2.cell? ⟨w.heap.size, 12, none⟩ = some (.slice x.d.At x.soa.texts.length x.d.ct) := HB2.out.f.cell 12
    by_cases h8 : x.zone.length = 0
    case neg =>
      have t : ((x.zone.length : Int) == 0) = false := by rw [beq_eq_false_iff_ne]; omega
      rw [decide_eq_false h8] at HV
      clear h8
      go_wp2
      go_ret
      exact ⟨by rw [HV.out]; rfl, HB2.out.below⟩
    have t : ((x.zone.length : Int) == 0) = true := by rw [h8]; rfl
    rw [decide_eq_true h8] at HV
    clear h8
    go_wp2_with fail
    refine (HSM.out _ HB2.out).mono ?_
    rintro e w3 ⟨rfl, hb3⟩
    have HB3 := Lib.hid (HB2.out.step hb3)
    clear hb3
    go_wp2
    go_ret
    exact ⟨by rw [HV.out]; simp, HB3.out.below⟩
  have b1 : (x.h.knd == 1) = false := by rw [beq_eq_false_iff_ne]; exact k1
  by_cases k2 : x.h.knd = 2
  · have b2 : (x.h.knd == 2) = true := by rw [k2]; rfl
    have HV := Lib.hid (HY2.out HHT.out k2)
    have HV' := Lib.hid (show soundF x.fact = (typedB x.h.typ && notB x.fact) from HV.out)
    clear k1 k2 HY1 HY2 HY3 HFC HV
    go_wp2_with fail
    refine (HKD.out _).mono ?_
    rintro e w1 ⟨rfl, rfl⟩
    cases h5 : typedB x.h.typ with
    | false =>
      rw [h5] at HV'
      go_wp2
      go_ret
      exact ⟨by rw [HV'.out]; rfl, HB.out.below⟩
    | true =>
    rw [h5] at HV'
    go_wp2_with fail
    refine (HNT.out _ HB.out h1).mono ?_
    rintro e w2 ⟨rfl, hb2⟩
    have HB2 := Lib.hid (HB.out.step hb2)
    clear hb2
    go_wp2
    go_ret
    exact ⟨by rw [HV'.out]; simp, HB2.out.below⟩
  have b2 : (x.h.knd == 2) = false := by rw [beq_eq_false_iff_ne]; exact k2
  by_cases k3 : x.h.knd = 3
  · have b3 : (x.h.knd == 3) = true := by rw [k3]; rfl
    have HV := Lib.hid (show soundF x.fact = (decide (x.h.typ = 0) && notB x.fact) from HY3.out HHT.out k3)
    clear k1 k2 k3 HY1 HY2 HY3 HFC
    by_cases h5 : x.h.typ = 0
    case neg =>
      have t : (x.h.typ == 0) = false := by rw [beq_eq_false_iff_ne]; exact h5
      rw [decide_eq_false h5] at HV
      clear h5
      go_wp2
      go_ret
      exact ⟨by rw [HV.out]; rfl, HB.out.below⟩
    have t : (x.h.typ == 0) = true := by rw [h5]; rfl
    rw [decide_eq_true h5] at HV
    clear h5
    go_wp2_with fail
    refine (HNT.out _ HB.out h1).mono ?_
    rintro e w2 ⟨rfl, hb2⟩
    have HB2 := Lib.hid (HB.out.step hb2)
    clear hb2
    go_wp2
    go_ret
    exact ⟨by rw [HV.out]; simp, HB2.out.below⟩
  have b3 : (x.h.knd == 3) = false := by rw [beq_eq_false_iff_ne]; exact k3
  have HV := Lib.hid (soundF_other (f := x.fact) k1 k2 k3)
  clear k1 k2 k3
  go_wp2
  go_ret
  exact ⟨by rw [HV.out]; rfl, HB.out.below⟩

end Go.Proofs.YthppgofpbpjglaaGreat

namespace Go.Proofs.YthppgofpbpjglaaGreat
open Go.RowKit

/-- Is data the same, byte by byte? -/
def exactD (a b : Dt) : Bool := sameD a b && (decide (a.host = b.host) && decide (a.mail = b.mail))
theorem exactD_self (d : Dt) : exactD d d = true := by simp [exactD, sameD, eqN]







































































end Go.Proofs.YthppgofpbpjglaaGreat

namespace Go.Proofs.YthppgofpbpjglaaGreat
open Go.RowKit

def sameR (a b : Rt) : Bool := decide (a.name = b.name) && (decide (a.kind = b.kind) && (decide (a.cls = b.cls) && (decide (a.ttl = b.ttl) && exactD a.data b.data)))
theorem sameR_self (r : Rt) : sameR r r = true := by simp [sameR, exactD_self]




































































































end Go.Proofs.YthppgofpbpjglaaGreat

namespace Go.Proofs.YthppgofpbpjglaaGreat
open Go.RowKit

/-- A question. -/
structure Qt where
  name : List (List UInt8)
  kind : Int
  cls : Int
/-- Where its name lies, and what room it has. -/
abbrev QV := Option Addr × Nat
def cellsQ (p : QV × Qt) : List Value := [.slice p.1.1 p.2.name.length p.1.2, .int .i64 p.2.kind, .int .i64 p.2.cls]
abbrev valQ (x : QV) (a : Qt) : Value := .agg #[.slice x.1 a.name.length x.2, .int .i64 a.kind, .int .i64 a.cls]
theorem cellsQ_len (p : QV × Qt) : (cellsQ p).length = 3 := rfl
theorem cellsQ_one (ps : List (QV × Qt)) : ∀ u ∈ ps.flatMap cellsQ, u.oneCell' = true := by
  intro u hu
  obtain ⟨p, _, hp⟩ := List.mem_flatMap.1 hu
  simp only [cellsQ, List.mem_cons, List.not_mem_nil, or_false] at hp
  rcases hp with rfl | rfl | rfl <;> rfl
theorem cellsQ_one1 (p : QV × Qt) : ∀ u ∈ cellsQ p, u.oneCell' = true := fun u hu => cellsQ_one [p] u (by simpa using hu)
def QAt (w : World) (H : Nat) (x : QV) (a : Qt) : Prop := Row w H x.1 (a.name.map sv)
def QsAt (w : World) (H : Nat) (A : Option Addr) (ps : List (QV × Qt)) : Prop := Row w H A (ps.flatMap cellsQ) ∧ ∀ p ∈ ps, QAt w H p.1 p.2
theorem QsAt.below {w w' : World} {H : Nat} {A : Option Addr} {ps : List (QV × Qt)} (h : QsAt w H A ps) (hb : Below H w w') : QsAt w' H A ps := ⟨h.1.below hb, fun p hp => Row.below (h.2 p hp) hb⟩
theorem QsAt.mono {w : World} {H H' : Nat} {A : Option Addr} {ps : List (QV × Qt)} (h : QsAt w H A ps) (hb : H ≤ H') : QsAt w H' A ps := ⟨h.1.mono hb, fun p hp => Row.mono (h.2 p hp) hb⟩
theorem QsAt.at_ {w : World} {H : Nat} {A : Option Addr} {ps : List (QV × Qt)} (h : QsAt w H A ps) {i : Nat} (hi : i < ps.length) :
    ∃ b off, A = some ⟨b, off, none⟩ ∧ b < H ∧ QAt w H (ps[i]).1 (ps[i]).2 ∧ w.cell? ⟨b, off + i * 3, none⟩ = some (.slice (ps[i]).1.1 (ps[i]).2.name.length (ps[i]).1.2) ∧ w.cell? ⟨b, off + i * 3 + 1, none⟩ = some (.int .i64 (ps[i]).2.kind) ∧ w.cell? ⟨b, off + i * 3 + 2, none⟩ = some (.int .i64 (ps[i]).2.cls) := by
  obtain ⟨b, off, e, hb, hc⟩ := h.1.part cellsQ_len (by omega) hi
  exact ⟨b, off, e, hb, h.2 _ (List.getElem_mem hi), hc 0 _ rfl, hc 1 _ rfl, hc 2 _ rfl⟩
def qsts (ps : List (QV × Qt)) : List Qt := ps.map (·.2)
theorem length_qsts (ps : List (QV × Qt)) : (qsts ps).length = ps.length := by simp [qsts]
theorem qsts_append (ps qs : List (QV × Qt)) : qsts (ps ++ qs) = qsts ps ++ qsts qs := by simp [qsts]

end Go.Proofs.YthppgofpbpjglaaGreat

namespace Go.Proofs.YthppgofpbpjglaaGreat
open Go.RowKit

def Gets (w : World) (r : Int × Int) (e : Ending) (w' : World) : Prop := e = .returned (.tuple #[.int .i64 r.1, .int .i64 r.2]) ∧ w = w'
def GetRel (l : List UInt8) (a s : Nat) (n i : Value) : Prop := ∃ k : Nat, k ≤ s ∧ i = .int .i64 k ∧ n = .int .i64 (numN (cutL l a k))

theorem getL_size {l : List UInt8} {a s : Int} (h : ¬ (1 ≤ s ∧ s ≤ 7)) : getL l a s = (0, 1) := by unfold getL; rw [szB_false h, if_pos (.inl rfl)]
theorem getL_neg {l : List UInt8} {a s : Int} (h : a < 0) : getL l a s = (0, 1) := by unfold getL; rw [if_pos (.inr h)]
theorem getL_short {l : List UInt8} {a s : Int} (h1 : 1 ≤ s) (h2 : s ≤ 7) (h3 : 0 ≤ a) (h : (l.length : Int) < a + s) : getL l a s = (0, 3) := by
  unfold getL; rw [szB_true ⟨h1, h2⟩, if_neg (by simp; omega), if_pos h]
theorem getL_ok {l : List UInt8} {a s : Nat} (h1 : 1 ≤ s) (h2 : s ≤ 7) (h : a + s ≤ l.length) : getL l a s = ((numN (cutL l a s) : Int), (0 : Int)) := by
  unfold getL; rw [szB_true ⟨by omega, by omega⟩, if_neg (by simp), if_neg (by omega)]; simp

















































































end Go.Proofs.YthppgofpbpjglaaGreat

namespace Go.Proofs.YthppgofpbpjglaaGreat
open Go.RowKit






section
variable {w : World} {g : Nat} {vb : Value} {p en : Nat}




end
/-- Only the block g may have turned. -/
abbrev GrewG (g : Nat) (w w' : World) : Prop := Grew (fun j => j = g) w w'







theorem cutL_take {b : List UInt8} {p s en : Nat} (h : p + s ≤ en) : cutL (b.take en) p s = cutL b p s := by
  unfold cutL
  rw [List.drop_take, List.take_take]
  congr 1
  omega



























































theorem row_cut {w : World} {base m p s : Nat} {A : Option Addr} {b : List UInt8} (hbl : b.length = m) (hrow : Row w base A (b.map bc)) (hp : p + s ≤ m) : Row w base (A.map fun x => x.add p) ((cutL b p s).map bc) := by
  rcases Nat.eq_zero_or_pos s with rfl | hs
  · simp only [cutL, List.take_zero, List.map_nil]
    exact Row.empty _ _ _
  · obtain ⟨bb, off, rfl, _, _⟩ := hrow.some_ (by rw [List.length_map]; omega)
    simp only [Option.map_some, addr_add]
    have h := (hrow.drop rfl (k := p)).take s
    rw [← List.map_drop, ← List.map_take] at h
    exact h


























































end Go.Proofs.YthppgofpbpjglaaGreat

namespace Go.Proofs.YthppgofpbpjglaaGreat
open Go.RowKit

/-- The cells of a reader. -/
def rdL (vb : Value) (p q x s : Nat) (vl : Value) (d : Bool) : List Value := [vb, .int .i64 p, .int .i64 q, .int .i64 x, .int .i64 s, vl, .bool d]


section
variable {w : World} {g : Nat} {vb : Value} {p q x s : Nat} {vl : Value} {d : Bool}













end

theorem below_set {w : World} {base g : Nat} (hg : base ≤ g) (i : Nat) (u : Value) : Below base w (w.setCell ⟨g, i, none⟩ u) := (Below.refl base w).setCell (p := ⟨g, i, none⟩) hg u









































































































































end Go.Proofs.YthppgofpbpjglaaGreat

namespace Go.Proofs.YthppgofpbpjglaaGreat
open Go.RowKit


























/-- The number that the two bytes of a pointer are. -/
theorem getL_two {b : List UInt8} {p : Nat} (hp : p < b.length) (h : p + 1 < b.length) : getL b p 2 = ((((b[p]).toNat * 256 + (b[p + 1]).toNat : Nat) : Int), 0) := by
  have e := getL_ok (l := b) (a := p) (s := 2) (by omega) (by omega) (by omega)
  have h1 := cutL_succ (l := b) (a := p) (k := 0) (by omega)
  have h2 := cutL_succ (l := b) (a := p) (k := 1) h
  have h0 : cutL b p 0 = [] := by simp [cutL]
  rw [h0] at h1
  simp only [Nat.zero_add, List.nil_append, Nat.add_zero] at h1
  rw [h1] at h2
  rw [show (2 : Int) = ((2 : Nat) : Int) from rfl, e, h2]
  simp [numN]
theorem getL_one {b : List UInt8} {p : Nat} (h : p < b.length) : getL b p 1 = (((b[p]).toNat : Int), 0) := by
  have e := getL_ok (l := b) (a := p) (s := 1) (by omega) (by omega) (by omega)
  have h1 := cutL_succ (l := b) (a := p) (k := 0) (by omega)
  have h0 : cutL b p 0 = [] := by simp [cutL]
  rw [h0] at h1
  simp only [Nat.zero_add, List.nil_append, Nat.add_zero] at h1
  rw [show (1 : Int) = ((1 : Nat) : Int) from rfl, e, h1]
  simp [numN]






















































































































































end Go.Proofs.YthppgofpbpjglaaGreat

namespace Go.Proofs.YthppgofpbpjglaaGreat
open Go.RowKit






























































































































end Go.Proofs.YthppgofpbpjglaaGreat

namespace Go.Proofs.YthppgofpbpjglaaGreat
open Go.RowKit

/-- The call answers what is read: a name in new memory, a place, an error. -/
def Read (w : World) (r : List (List UInt8) × Nat × Nat) (e : Ending) (w' : World) : Prop :=
  ∃ v, e = .returned (.tuple #[v, .int .i64 r.2.1, .int .i64 r.2.2]) ∧ w'.ownsRow w.heap.size 9 1 v r.1.length (r.1.map sv) ∧ Below w.heap.size w w'







def doneV : Option Value → Bool
  | some (.bool false) => false
  | _ => true
def numV : Option Value → Nat
  | some v => (intOf v).toNat
  | none => 0
/-- What is left to read, as a number. -/
def leftR (g : Nat) (e : Value) (wr : World) : Nat :=
  if intOf e = 0 then (if doneV (wr.cell? ⟨g, 6, none⟩) = true then 0 else 1 + numV (wr.cell? ⟨g, 2, none⟩) * 256 + (255 - numV (wr.cell? ⟨g, 4, none⟩))) else 0
section
variable {wr : World} {g : Nat} {vb : Value} {p q x s : Nat} {vl : Value} {d : Bool}




theorem leftR_err {k : Nat} (hk : k ≠ 0) : leftR g (.int .i64 (k : Int)) wr = 0 := by
  simp [leftR, intOf, hk]
end
















































































































def NegRel (w : World) (g : Nat) (A : Option Addr) (m cap : Nat) (a : Int) (e : Value) (wr : World) : Prop :=
  ∃ k : Nat, k ≤ 1 ∧ e = .int .i64 k ∧ wr.cell? ⟨g, 0, none⟩ = some (.slice A m cap) ∧ wr.cell? ⟨g, 1, none⟩ = some (.int .i64 a) ∧ wr.cell? ⟨g, 6, none⟩ = some (.bool false) ∧ Below w.heap.size w wr




































end Go.Proofs.YthppgofpbpjglaaGreat

namespace Go.Proofs.YthppgofpbpjglaaGreat
open Go.RowKit






















/-- k numbers of s bytes from p on. -/
def numsL (b : List UInt8) (p s : Nat) : Nat → List Int
  | 0 => []
  | k + 1 => numsL b p s k ++ [(numN (cutL b (p + k * s) s) : Int)]
theorem length_numsL (b : List UInt8) (p s : Nat) : ∀ k, (numsL b p s k).length = k
  | 0 => rfl
  | k + 1 => by simp [numsL, length_numsL b p s k]

/-- What is read of k numbers. -/
def numsR (b : List UInt8) (p en s k : Nat) : Except Nat (List Int × Nat) := if p + k * s ≤ en then .ok (numsL b p s k, p + k * s) else .error 3
/-- A slice of the call's own, which reads as the numbers. -/
def OwnI (B : Nat) (l : List Int) (v : Value) (w : World) : Prop := w.ownsRow B 3 1 v l.length (l.map zv)
/-- A slice of the call's own, which reads as the strings. -/
def OwnT (B : Nat) (l : List (List UInt8)) (v : Value) (w : World) : Prop := w.ownsRow B 9 1 v l.length (l.map sv)
/-- A slice of the call's own, which reads as the bytes. -/
def OwnB (B : Nat) (l : List UInt8) (v : Value) (w : World) : Prop := w.ownsRow B 5 1 v l.length (l.map bc)









































































/-- What is read of a name, up to an end. -/
def nameF (r : List (List UInt8) × Nat × Nat) (en : Nat) : Except Nat (List (List UInt8) × Nat) := if r.2.2 ≠ 0 then .error r.2.2 else if en < r.2.1 then .error 3 else .ok (r.1, r.2.1)
def nameR (b : List UInt8) (p en : Nat) : Except Nat (List (List UInt8) × Nat) := nameF (getR b p p 0 []) en




















































end Go.Proofs.YthppgofpbpjglaaGreat

namespace Go.Proofs.YthppgofpbpjglaaGreat
open Go.RowKit

/-- What is read of texts, from p on; acc are read already. -/
def textsR (b : List UInt8) (p en : Nat) (acc : List (List UInt8)) : Except Nat (List (List UInt8) × Nat) :=
  if _h : p < en then
    if acc.length = 64 then .error 4
    else if en < p + 1 + numN (cutL b p 1) then .error 3
    else textsR b (p + 1 + numN (cutL b p 1)) en (acc ++ [cutL b (p + 1) (numN (cutL b p 1))])
  else if acc = [] then .error 2 else .ok (acc, p)
termination_by en - p
section
variable {b : List UInt8} {p en : Nat} {acc : List (List UInt8)}
theorem textsR_large (h : p < en) (h1 : acc.length = 64) : textsR b p en acc = .error 4 := by rw [textsR, dif_pos h, if_pos h1]
theorem textsR_short (h : p < en) (h1 : acc.length ≠ 64) (h2 : en < p + 1 + numN (cutL b p 1)) : textsR b p en acc = .error 3 := by rw [textsR, dif_pos h, if_neg h1, if_pos h2]
theorem textsR_next (h : p < en) (h1 : acc.length ≠ 64) (h2 : p + 1 + numN (cutL b p 1) ≤ en) : textsR b p en acc = textsR b (p + 1 + numN (cutL b p 1)) en (acc ++ [cutL b (p + 1) (numN (cutL b p 1))]) := by
  rw [textsR, dif_pos h, if_neg h1, if_neg (by omega)]
theorem textsR_none (h : en ≤ p) : textsR b p en [] = .error 2 := by rw [textsR, dif_neg (by omega), if_pos rfl]
theorem textsR_end (h : en ≤ p) (h1 : acc ≠ []) : textsR b p en acc = .ok (acc, p) := by rw [textsR, dif_neg (by omega), if_neg h1]
end

theorem numN_one_lt (b : List UInt8) (p : Nat) : numN (cutL b p 1) < 256 := by
  have h := numN_lt (cutL b p 1)
  have hl : (cutL b p 1).length ≤ 1 := by simp [cutL]; omega
  have : 256 ^ (cutL b p 1).length ≤ 256 ^ 1 := Nat.pow_le_pow_right (by omega) hl
  omega




















































































































/-- What is read of bytes. -/
def bytesR (b : List UInt8) (p en least most : Nat) : Except Nat (List UInt8 × Nat) :=
  if en < p + max least (min most (en - p)) then .error 3 else .ok (cutL b p (max least (min most (en - p))), p + max least (min most (en - p)))





























































end Go.Proofs.YthppgofpbpjglaaGreat

namespace Go.Proofs.YthppgofpbpjglaaGreat
open Go.RowKit

/-- What is read of data. -/
def readD (b : List UInt8) (p en : Nat) (s : Sh) : Except Nat Dt :=
  numsR b p en 2 s.ahead >>= fun n1 => (if s.host = true then nameR b n1.2 en else .ok ([], n1.2)) >>= fun h => (if s.mail = true then nameR b h.2 en else .ok ([], h.2)) >>= fun m =>
    numsR b m.2 en 4 s.behind >>= fun n2 => (if s.texts = true then textsR b n2.2 en [] else .ok ([], n2.2)) >>= fun t => bytesR b t.2 en s.least s.most >>= fun y =>
      if y.2 < en then .error 7 else .ok ⟨y.1, h.1, m.1, n1.1 ++ n2.1, t.1⟩

theorem numsR_le {b : List UInt8} {p en s k q : Nat} {l : List Int} (h : numsR b p en s k = .ok (l, q)) : q ≤ en ∧ l.length = k := by
  unfold numsR at h
  split at h
  · injection h with h
    injection h with h1 h2
    subst h1; subst h2
    exact ⟨by assumption, length_numsL _ _ _ _⟩
  · cases h
theorem nameR_le {b : List UInt8} {p en q : Nat} {n : List (List UInt8)} (h : nameR b p en = .ok (n, q)) : q ≤ en := by
  unfold nameR nameF at h
  split at h
  · cases h
  · split at h
    · cases h
    · injection h with h
      injection h with h1 h2
      omega
theorem textsR_le {b : List UInt8} {en : Nat} : ∀ (d p q : Nat) (acc l : List (List UInt8)), en - p ≤ d → p ≤ en → textsR b p en acc = .ok (l, q) → q ≤ en
  | d, p, q, acc, l, hd, hp, h => by
    rw [textsR] at h
    split at h
    · split at h
      · cases h
      · split at h
        · cases h
        · exact textsR_le (d - 1) _ q _ l (by omega) (by omega) h
    · split at h
      · cases h
      · injection h with h
        injection h with h1 h2
        omega
termination_by _ p => en - p




















section
variable {w W W' : World} {g : Nat} {vb : Value} {s : Sh} {q q' en : Nat} {L : List Value}






























theorem rows_apart {w : World} {b1 b2 s1 s2 n1 n2 : Nat} {e1 e2 : TypeId} {v1 v2 : Value} {xs1 xs2 : List Value} (h1 : w.ownsRow b1 e1 s1 v1 n1 xs1) (h2 : w.ownsRow b2 e2 s2 v2 n2 xs2) (hne : e1 ≠ e2) : v1.ownBlock = none ∨ v1.ownBlock ≠ v2.ownBlock := by
  rcases h1.2 with ⟨rfl, _⟩ | ⟨g, cap, cur, rfl, _, hh, _⟩
  · exact .inl rfl
  · right
    rcases h2.2 with ⟨rfl, _⟩ | ⟨g', cap', cur', rfl, _, hh', _⟩
    · simp [Value.ownBlock]
    · intro e
      have : g = g' := by simpa [Value.ownBlock] using e
      subst this
      rw [hh] at hh'
      injection hh' with hh'
      injection hh' with _ ht
      exact hne ht
end

end Go.Proofs.YthppgofpbpjglaaGreat

namespace Go.Proofs.YthppgofpbpjglaaGreat
open Go.RowKit




























































































































































































































































































































































































































































































































































































































































































end Go.Proofs.YthppgofpbpjglaaGreat

namespace Go.Proofs.YthppgofpbpjglaaGreat
open Go.RowKit













































/-- What Get answers: data, an error. -/
def getD (b : List UInt8) (at_ size kind : Int) : Dt × Nat :=
  if at_ < 0 ∨ size < 0 ∨ kindB kind = false then (⟨[], [], [], [], []⟩, 1) else if (b.length : Int) - at_ < size then (⟨[], [], [], [], []⟩, 3)
  else match readD b at_.toNat (at_ + size).toNat (shN kind) with
    | .ok d => (d, 0)
    | .error k => (⟨[], [], [], [], []⟩, k)
/-- The call answers data in slices of its own, and an error. -/
def GotD (w : World) (r : Dt × Nat) (e : Ending) (w' : World) : Prop :=
  ∃ y : DV, e = .returned (.tuple #[y.val r.1, .int .i64 r.2]) ∧ OwnD w' w.heap.size y r.1 ∧ Below w.heap.size w w'














end Go.Proofs.YthppgofpbpjglaaGreat

namespace Go.Proofs.YthppgofpbpjglaaGreat
open Go.RowKit

theorem putL_fit {n s : Int} (h : fitB n s = true) : ∃ m k : Nat, n = m ∧ s = k ∧ putL [] n s = digs m k ∧ m < 2 ^ (8 * k) ∧ (putL [] n s).length = k := by
  have h2 := h
  simp only [fitB, decide_eq_true_eq] at h2
  obtain ⟨a1, a2, a3, a4⟩ := h2
  obtain ⟨m, rfl⟩ : ∃ m : Nat, n = m := ⟨n.toNat, by omega⟩
  obtain ⟨k, rfl⟩ : ∃ k : Nat, s = k := ⟨s.toNat, by omega⟩
  have e := putL_yes (l := []) (n := m) (s := k) h
  rw [List.nil_append] at e
  refine ⟨m, k, rfl, rfl, e, ?_, by rw [e, length_digs]⟩
  rw [Int.toNat_natCast] at a4
  exact_mod_cast a4

theorem length_numsW_fit (s : Nat) : ∀ l : List Int, (∀ n ∈ l, fitB n s = true) → (numsW s l).length = l.length * s
  | [], _ => by simp [numsW]
  | n :: l, h => by
    have h1 := length_numsW_fit s l fun x hx => h x (List.mem_cons_of_mem _ hx)
    obtain ⟨m, k, rfl, hk, e, hm, hl⟩ := putL_fit (h n (List.mem_cons_self ..))
    have : k = s := by omega
    subst this
    simp only [numsW, List.length_append, List.length_cons, Nat.add_mul]
    omega
theorem numsL_back (s : Nat) (X : List UInt8) : ∀ (k : Nat) (l : List Int) (Y : List UInt8), l.length = k → (∀ n ∈ l, fitB n s = true) → numsL ((X ++ numsW s l) ++ Y) X.length s k = l
  | 0, l, Y, hl, _ => by rw [List.eq_nil_of_length_eq_zero hl]; rfl
  | k + 1, l, Y, hl, h => by
    have hne : l ≠ [] := fun e => by rw [e] at hl; cases hl
    obtain ⟨l', n, rfl⟩ : ∃ l' n, l = l' ++ [n] := ⟨l.dropLast, l.getLast hne, (List.dropLast_concat_getLast hne).symm⟩
    have hl' : l'.length = k := by simpa using hl
    have h' : ∀ x ∈ l', fitB x s = true := fun x hx => h x (List.mem_append_left _ hx)
    obtain ⟨m, j, rfl, hj, e, hm, hlen⟩ := putL_fit (h n (List.mem_append_right _ (List.mem_singleton.2 rfl)))
    have : j = s := by omega
    subst this
    have hw := length_numsW_fit j l' h'
    rw [numsL, numsW_snoc, e]
    have e1 : ((X ++ (numsW (j : Int) l' ++ digs m j)) ++ Y) = ((X ++ numsW (j : Int) l') ++ (digs m j ++ Y)) := by simp [List.append_assoc]
    have e2 : ((X ++ (numsW (j : Int) l' ++ digs m j)) ++ Y) = (((X ++ numsW (j : Int) l') ++ digs m j) ++ Y) := by simp [List.append_assoc]
    have r1 := numsL_back j X k l' (digs m j ++ Y) hl' h'
    rw [← e1] at r1
    rw [r1]
    congr 1
    have hp : X.length + k * j = (X ++ numsW (j : Int) l').length := by rw [List.length_append, hw, hl']
    rw [hp, e2, cutL_more (by simp only [List.length_append, length_digs]; omega), cutL_behind, numN_digs hm]

theorem numsR_back {s : Nat} {X Y : List UInt8} {l : List Int} {en k : Nat} (hk : l.length = k) (h : ∀ n ∈ l, fitB n s = true) (hen : (X ++ numsW s l).length ≤ en) : numsR ((X ++ numsW s l) ++ Y) X.length en s k = .ok (l, (X ++ numsW s l).length) := by
  have hw := length_numsW_fit s l h
  rw [List.length_append, hw, hk] at hen
  rw [numsR, if_pos hen, numsL_back s X k l Y hk h, List.length_append, hw, hk]

theorem nameR_back {C : List UInt8} {q e en : Nat} {n : List (List UInt8)} (h : AtN C q q n e) (_ : 0 < e) (hn : szN n ≤ 255) : getR C q q 0 [] = (n, e, 0) ∧ (e ≤ en → nameR C q en = .ok (n, e)) ∧ (en < e → nameR C q en = .error 3) := by
  have h1 := h.read (x := 0) (m := []) (by have : szN [] = 1 := by decide
                                           omega)
  rw [List.nil_append] at h1
  have h2 : nextR 0 e = e := rfl
  rw [h2] at h1
  refine ⟨h1, fun hen => ?_, fun hen => ?_⟩
  · rw [nameR, h1, nameF, if_neg (by simp), if_neg (by simp; omega)]
  · rw [nameR, h1, nameF, if_neg (by simp), if_pos (by simpa using hen)]

theorem textsR_back : ∀ (l acc : List (List UInt8)) (X Y : List UInt8), acc ++ l ≠ [] → acc.length + l.length ≤ 64 → (∀ t ∈ l, t.length ≤ 255) → textsR ((X ++ textsW l) ++ Y) X.length (X ++ textsW l).length acc = .ok (acc ++ l, (X ++ textsW l).length)
  | [], acc, X, Y, hne, _, _ => by
    rw [textsR_end (by simp [textsW]) (by simpa using hne), List.append_nil]
    simp [textsW]
  | t :: l, acc, X, Y, hne, h64, ht => by
    have htl := ht t (List.mem_cons_self ..)
    have hfit : fitB (t.length : Int) ((1 : Nat) : Int) = true := fitB_true (by omega) (by omega) (by omega) (by simp; omega)
    obtain ⟨m, k, hm, hk, e, hm2, hl1⟩ := putL_fit hfit
    have hm' : m = t.length := by omega
    have hk' : k = 1 := by omega
    subst hm' hk'
    have e0 : putL [] (t.length : Int) 1 = digs t.length 1 := e
    have hx : (X ++ textsW (t :: l)) = ((X ++ (digs t.length 1 ++ t)) ++ textsW l) := by simp [textsW, e0, List.append_assoc]
    have hlen : (X ++ (digs t.length 1 ++ t)).length = X.length + 1 + t.length := by simp [length_digs]; omega
    have hc1 : cutL ((X ++ textsW (t :: l)) ++ Y) X.length 1 = digs t.length 1 := by
      rw [hx, show ((X ++ (digs t.length 1 ++ t)) ++ textsW l) ++ Y = (X ++ digs t.length 1) ++ (t ++ (textsW l ++ Y)) by simp [List.append_assoc], cutL_more (by rw [List.length_append, length_digs]; omega), cutL_behind]
    have hn : numN (cutL ((X ++ textsW (t :: l)) ++ Y) X.length 1) = t.length := by rw [hc1, numN_digs hm2]
    have hc2 : cutL ((X ++ textsW (t :: l)) ++ Y) (X.length + 1) t.length = t := by
      rw [hx, show ((X ++ (digs t.length 1 ++ t)) ++ textsW l) ++ Y = (X ++ digs t.length 1) ++ (t ++ (textsW l ++ Y)) by simp [List.append_assoc]]
      have hp : X.length + 1 = (X ++ digs t.length 1).length := by rw [List.length_append, length_digs]
      unfold cutL
      rw [hp, List.drop_left, List.take_left]
    have hle : X.length + 1 + t.length ≤ (X ++ textsW (t :: l)).length := by rw [hx, List.length_append, hlen]; omega
    rw [textsR_next (by omega) (by simp at h64; omega) (by rw [hn]; exact hle), hn, hc2]
    have ih := textsR_back l (acc ++ [t]) (X ++ (digs t.length 1 ++ t)) Y (by simp) (by simp at h64 ⊢; omega) (fun x hx => ht x (List.mem_cons_of_mem _ hx))
    rw [← hx, hlen] at ih
    rw [ih]
    simp

theorem bytesR_back {X l Y : List UInt8} {least most : Nat} (h1 : least ≤ l.length) (h2 : l.length ≤ most) : bytesR ((X ++ l) ++ Y) X.length (X ++ l).length least most = .ok (l, (X ++ l).length) := by
  have hs : max least (min most ((X ++ l).length - X.length)) = l.length := by
    rw [List.length_append]
    omega
  rw [bytesR, hs, if_neg (by rw [List.length_append]; omega)]
  have hc : cutL ((X ++ l) ++ Y) X.length l.length = l := by
    unfold cutL
    rw [List.append_assoc, List.drop_left, List.take_left]
  rw [hc, List.length_append]

theorem nums_fit {ah : Nat} {l : List Int} (h : numsOk ah l = true) : (∀ n ∈ l.take ah, fitB n ((2 : Nat) : Int) = true) ∧ (∀ n ∈ l.drop ah, fitB n ((4 : Nat) : Int) = true) := by
  unfold numsOk at h
  rw [List.all_eq_true] at h
  constructor
  · intro n hn
    obtain ⟨i, hi, rfl⟩ := List.getElem_of_mem hn
    have hi2 : i < ah ∧ i < l.length := by simp at hi; omega
    have := h i (List.mem_range.2 hi2.2)
    rw [sizeAt, if_pos hi2.1] at this
    simpa [List.getD, hi2.2] using this
  · intro n hn
    obtain ⟨i, hi, rfl⟩ := List.getElem_of_mem hn
    have hi2 : ah + i < l.length := by simp at hi; omega
    have := h (ah + i) (List.mem_range.2 hi2)
    rw [sizeAt, if_neg (by omega)] at this
    simpa [List.getD, hi2] using this

/-- What kinds of shapes there are. -/
structure ShP (s : Sh) : Prop where
  t : s.texts = true → s.host = false ∧ s.mail = false ∧ s.ahead = 0 ∧ s.behind = 0 ∧ s.least = 0 ∧ s.most = 0
  h : s.host = true → s.least = 0 ∧ s.most = 0
  m : s.mail = true → s.host = true ∧ 0 < s.behind
  b : 0 < s.behind → s.mail = true
  n : s.host = false → s.ahead = 0
theorem shP (k : Int) : ShP (shN k) := by
  rcases shN_cases k with rfl | rfl | rfl | rfl | rfl | rfl | rfl | rfl | rfl | hk
  case inr.inr.inr.inr.inr.inr.inr.inr.inr =>
    rw [shN_other hk]
    exact ⟨by decide, by decide, by decide, by decide, by decide⟩
  all_goals exact ⟨by decide, by decide, by decide, by decide, by decide⟩

theorem AtN.pos {B : List UInt8} {p q e : Nat} {n : List (List UInt8)} (h : AtN B p q n e) : p < e := by
  induction h <;> omega

/-- What stands where. -/
theorem parts {s : Sh} {d : Dt} (X : List UInt8) (sp : SoundP s d) : ∃ B1 x2 x3 : List UInt8,
    (putD s d X []).1 = ((x3 ++ numsW 4 (d.nums.drop s.ahead)) ++ textsW d.texts) ++ d.bytes ∧ B1 = X ++ numsW 2 (d.nums.take s.ahead) ∧ (∃ S, x2 = B1 ++ S) ∧ (∃ S, x3 = x2 ++ S) ∧
    (∀ C en, x2.length ≤ en → (if s.host = true then nameR (x2 ++ C) B1.length en else .ok ([], B1.length)) = .ok (d.host, x2.length)) ∧
    (∀ C en, x3.length ≤ en → (if s.mail = true then nameR (x3 ++ C) x2.length en else .ok ([], x2.length)) = .ok (d.mail, x3.length)) ∧
    (s.host = true → B1.length < x2.length ∧ ∀ C en, en < x2.length → nameR (x2 ++ C) B1.length en = .error 3) ∧ (s.host = false → x2 = B1) ∧ (s.mail = false → x3 = x2) := by
  have G0 : GoodR X [] := GoodR.nil X
  obtain ⟨B1, hB1⟩ : ∃ x, x = X ++ numsW 2 (d.nums.take s.ahead) := ⟨_, rfl⟩
  have G1 : GoodR B1 [] := by rw [hB1]; exact G0.more _
  obtain ⟨x2, hx2⟩ : ∃ x, x = putH s d X [] := ⟨_, rfl⟩
  have h2 : (∃ S, x2.1 = B1 ++ S) ∧ GoodR x2.1 x2.2 ∧ (∀ C en, x2.1.length ≤ en → (if s.host = true then nameR (x2.1 ++ C) B1.length en else .ok ([], B1.length)) = .ok (d.host, x2.1.length)) ∧
      (s.host = true → B1.length < x2.1.length ∧ ∀ C en, en < x2.1.length → nameR (x2.1 ++ C) B1.length en = .error 3) ∧ (s.host = false → x2.1 = B1) := by
    cases hh : s.host
    · have e : x2 = (B1, []) := by rw [hx2, putH, hh, if_neg (by decide), hB1]
      rw [e, sp.h0 hh]
      exact ⟨⟨[], by simp⟩, G1, fun C en _ => rfl, fun h => (by cases h), fun _ => rfl⟩
    · have hs := soundN_parts (sp.h hh)
      have e : x2 = nameW s.short d.host B1 [] := by rw [hx2, putH, hh, if_pos rfl, hB1]
      obtain ⟨hS, hat, hg⟩ := nameW_good (short := s.short) hs.1 G1
      rw [← e] at hS hat hg
      refine ⟨hS, hg, fun C en he => ?_, fun _ => ⟨hat.pos, fun C en he => ?_⟩, fun h => (by cases h)⟩
      · rw [if_pos rfl]
        exact (nameR_back (en := en) (hat.more C) (by have := hat.pos; omega) hs.2).2.1 he
      · exact (nameR_back (en := en) (hat.more C) (by have := hat.pos; omega) hs.2).2.2 he
  obtain ⟨hS2, G2, R2, E2, N2⟩ := h2
  obtain ⟨x3, hx3⟩ : ∃ x, x = putM s d x2 := ⟨_, rfl⟩
  have h3 : (∃ S, x3.1 = x2.1 ++ S) ∧ (∀ C en, x3.1.length ≤ en → (if s.mail = true then nameR (x3.1 ++ C) x2.1.length en else .ok ([], x2.1.length)) = .ok (d.mail, x3.1.length)) ∧ (s.mail = false → x3.1 = x2.1) := by
    cases hh : s.mail
    · have e : x3 = x2 := by rw [hx3, putM, hh, if_neg (by decide)]
      rw [e, sp.m0 hh]
      exact ⟨⟨[], by simp⟩, fun C en _ => rfl, fun _ => rfl⟩
    · have hs := soundN_parts (sp.m hh)
      have e : x3 = nameW s.short d.mail x2.1 x2.2 := by rw [hx3, putM, hh, if_pos rfl]
      obtain ⟨hS, hat, hg⟩ := nameW_good (short := s.short) hs.1 G2
      rw [← e] at hS hat hg
      refine ⟨hS, fun C en he => ?_, fun h => (by cases h)⟩
      rw [if_pos rfl]
      exact (nameR_back (en := en) (hat.more C) (by have := hat.pos; omega) hs.2).2.1 he
  obtain ⟨hS3, R3, N3⟩ := h3
  exact ⟨B1, x2.1, x3.1, by rw [putD, ← hx2, ← hx3], hB1, hS2, hS3, R2, R3, E2, N2, N3⟩

/-- The data that was written is read, whatever stands ahead and behind. -/
theorem read_back {s : Sh} {d : Dt} {X Y : List UInt8} (sp : SoundP s d) (sh : ShP s) : readD ((putD s d X []).1 ++ Y) X.length (putD s d X []).1.length s = .ok d := by
  have hn := nums_fit sp.ok
  have hlt : (d.nums.take s.ahead).length = s.ahead := by rw [List.length_take, sp.n]; omega
  have hld : (d.nums.drop s.ahead).length = s.behind := by rw [List.length_drop, sp.n]; omega
  obtain ⟨B1, x2, x3, hput, hB1, ⟨S2, hS2⟩, ⟨S3, hS3⟩, R2, R3, _, _, _⟩ := parts X sp
  rw [hput]
  obtain ⟨T, hT⟩ : ∃ T, T = (((x3 ++ numsW 4 (d.nums.drop s.ahead)) ++ textsW d.texts) ++ d.bytes) ++ Y := ⟨_, rfl⟩
  obtain ⟨en, hen⟩ : ∃ en, en = (((x3 ++ numsW 4 (d.nums.drop s.ahead)) ++ textsW d.texts) ++ d.bytes).length := ⟨_, rfl⟩
  rw [← hT, ← hen]
  have l1 : x3.length ≤ en := by rw [hen]; simp only [List.length_append]; omega
  have l2 : x2.length ≤ x3.length := by rw [hS3, List.length_append]; omega
  have l3 : B1.length ≤ x2.length := by rw [hS2, List.length_append]; omega
  have q1 : numsR T X.length en 2 s.ahead = .ok (d.nums.take s.ahead, B1.length) := by
    have hTx : T = (X ++ numsW ((2 : Nat) : Int) (d.nums.take s.ahead)) ++ ((S2 ++ S3) ++ (numsW 4 (d.nums.drop s.ahead) ++ (textsW d.texts ++ (d.bytes ++ Y)))) := by
      rw [hT, hS3, hS2, hB1]
      simp [List.append_assoc]
    have hle : (X ++ numsW ((2 : Nat) : Int) (d.nums.take s.ahead)).length ≤ en := by
      have h1 : B1.length ≤ en := by omega
      rw [hB1] at h1
      exact h1
    have h := numsR_back (X := X) (Y := (S2 ++ S3) ++ (numsW 4 (d.nums.drop s.ahead) ++ (textsW d.texts ++ (d.bytes ++ Y)))) (en := en) hlt hn.1 hle
    rw [← hTx] at h
    rw [hB1]
    exact h
  have q2 := R2 (S3 ++ (numsW 4 (d.nums.drop s.ahead) ++ (textsW d.texts ++ (d.bytes ++ Y)))) en (by omega)
  rw [show x2 ++ (S3 ++ (numsW 4 (d.nums.drop s.ahead) ++ (textsW d.texts ++ (d.bytes ++ Y)))) = T by rw [hT, hS3]; simp [List.append_assoc]] at q2
  have q3 := R3 (numsW 4 (d.nums.drop s.ahead) ++ (textsW d.texts ++ (d.bytes ++ Y))) en l1
  rw [show x3 ++ (numsW 4 (d.nums.drop s.ahead) ++ (textsW d.texts ++ (d.bytes ++ Y))) = T by rw [hT]; simp [List.append_assoc]] at q3
  have l4 : (x3 ++ numsW 4 (d.nums.drop s.ahead)).length ≤ en := by rw [hen]; simp only [List.length_append]; omega
  have q4 : numsR T x3.length en 4 s.behind = .ok (d.nums.drop s.ahead, (x3 ++ numsW 4 (d.nums.drop s.ahead)).length) := by
    have h := numsR_back (s := 4) (X := x3) (Y := textsW d.texts ++ (d.bytes ++ Y)) (en := en) hld hn.2 l4
    rw [show (x3 ++ numsW ((4 : Nat) : Int) (d.nums.drop s.ahead)) ++ (textsW d.texts ++ (d.bytes ++ Y)) = T by rw [hT]; simp [List.append_assoc]] at h
    exact h
  obtain ⟨x4, hx4⟩ : ∃ x, x = x3 ++ numsW 4 (d.nums.drop s.ahead) := ⟨_, rfl⟩
  rw [← hx4] at q4 l4 hT hen
  have q5 : (if s.texts = true then textsR T x4.length en [] else .ok ([], x4.length)) = .ok (d.texts, (x4 ++ textsW d.texts).length) := by
    cases ht : s.texts
    · rw [sp.t0 ht, if_neg (by decide)]
      simp [textsW]
    · rw [if_pos rfl]
      have hb0 : d.bytes = [] := List.eq_nil_of_length_eq_zero (by have h1 := sp.b; have h2 := (sh.t ht).2.2.2.2.2; omega)
      have h := textsR_back d.texts [] x4 Y (by rw [List.nil_append]; intro e; have := sp.t1 ht; rw [e] at this; simp at this) (by have := sp.t; simpa using this) sp.tl
      have e1 : (x4 ++ textsW d.texts) ++ Y = T := by rw [hT, hb0]; simp
      have e2 : (x4 ++ textsW d.texts).length = en := by rw [hen, hb0]; simp
      rw [e1, e2, List.nil_append] at h
      rw [e2]
      exact h
  have q6 : bytesR T (x4 ++ textsW d.texts).length en s.least s.most = .ok (d.bytes, en) := by
    have h := bytesR_back (X := x4 ++ textsW d.texts) (Y := Y) sp.bl sp.b
    rw [← hT, ← hen] at h
    exact h
  unfold readD
  rw [q1]
  simp only [bind, Except.bind]
  rw [q2]
  simp only []
  rw [q3]
  simp only []
  rw [q4]
  simp only []
  rw [q5]
  simp only []
  rw [q6]
  simp

/-- A byte less is too little. -/
theorem read_short {s : Sh} {d : Dt} {X Y : List UInt8} (sp : SoundP s d) (sh : ShP s) (hb : d.bytes = []) (ht1 : d.texts.length ≤ 1) (hsz : X.length < (putD s d X []).1.length) :
    ∃ k, k ≠ 0 ∧ readD ((putD s d X []).1 ++ Y) X.length ((putD s d X []).1.length - 1) s = .error k := by
  have hn := nums_fit sp.ok
  have hlt : (d.nums.take s.ahead).length = s.ahead := by rw [List.length_take, sp.n]; omega
  have hld : (d.nums.drop s.ahead).length = s.behind := by rw [List.length_drop, sp.n]; omega
  obtain ⟨B1, x2, x3, hput, hB1, ⟨S2, hS2⟩, ⟨S3, hS3⟩, R2, R3, E2, N2, N3⟩ := parts X sp
  rw [hb, List.append_nil] at hput
  rw [hput] at hsz ⊢
  obtain ⟨T, hT⟩ : ∃ T, T = ((x3 ++ numsW 4 (d.nums.drop s.ahead)) ++ textsW d.texts) ++ Y := ⟨_, rfl⟩
  obtain ⟨en, hen⟩ : ∃ en, en = ((x3 ++ numsW 4 (d.nums.drop s.ahead)) ++ textsW d.texts).length := ⟨_, rfl⟩
  rw [← hen] at hsz
  rw [← hT, ← hen]
  have l2 : x2.length ≤ x3.length := by rw [hS3, List.length_append]; omega
  have l3 : B1.length ≤ x2.length := by rw [hS2, List.length_append]; omega
  have q1 : B1.length ≤ en - 1 → numsR T X.length (en - 1) 2 s.ahead = .ok (d.nums.take s.ahead, B1.length) := fun hle => by
    have hTx : T = (X ++ numsW ((2 : Nat) : Int) (d.nums.take s.ahead)) ++ ((S2 ++ S3) ++ (numsW 4 (d.nums.drop s.ahead) ++ (textsW d.texts ++ Y))) := by
      rw [hT, hS3, hS2, hB1]
      simp [List.append_assoc]
    have hle2 : (X ++ numsW ((2 : Nat) : Int) (d.nums.take s.ahead)).length ≤ en - 1 := by
      rw [hB1] at hle
      exact hle
    have h := numsR_back (X := X) (Y := (S2 ++ S3) ++ (numsW 4 (d.nums.drop s.ahead) ++ (textsW d.texts ++ Y))) (en := en - 1) hlt hn.1 hle2
    rw [← hTx] at h
    rw [hB1]
    exact h
  have hT2 : x2 ++ (S3 ++ (numsW 4 (d.nums.drop s.ahead) ++ (textsW d.texts ++ Y))) = T := by rw [hT, hS3]; simp [List.append_assoc]
  have hT3 : x3 ++ (numsW 4 (d.nums.drop s.ahead) ++ (textsW d.texts ++ Y)) = T := by rw [hT]; simp [List.append_assoc]
  cases hh : s.host
  · have ha := sh.n hh
    have hm : s.mail = false := by
      cases hx : s.mail
      · rfl
      · have := (sh.m hx).1; rw [hh] at this; cases this
    have hbe : s.behind = 0 := by
      rcases Nat.eq_zero_or_pos s.behind with h0 | h0
      · exact h0
      · have := sh.b h0; rw [hm] at this; cases this
    have hnil : d.nums = [] := List.eq_nil_of_length_eq_zero (by rw [sp.n, ha, hbe])
    have e1 : B1 = X := by rw [hB1, hnil]; simp [numsW]
    have e3 : x3 = X := by rw [N3 hm, N2 hh, e1]
    rw [hnil, List.drop_nil] at hT hen
    simp only [numsW, List.append_nil] at hT hen
    rw [e3] at hT hen
    cases ht : s.texts
    · rw [sp.t0 ht] at hen
      simp [textsW] at hen
      omega
    · have h1 := sp.t1 ht
      obtain ⟨t, hts⟩ : ∃ t, d.texts = [t] := List.length_eq_one_iff.1 (by omega)
      have htl := sp.tl t (by rw [hts]; simp)
      rw [hts] at hT hen
      have hfit : fitB (t.length : Int) ((1 : Nat) : Int) = true := fitB_true (by omega) (by omega) (by omega) (by simp; omega)
      obtain ⟨m, k, hm1, hk1, e, hm2, hl1⟩ := putL_fit hfit
      have hm' : m = t.length := by omega
      have hk' : k = 1 := by omega
      subst hm' hk'
      have e0 : putL [] (t.length : Int) 1 = digs t.length 1 := e
      simp only [textsW, e0, List.append_nil] at hT hen
      have hen2 : en = X.length + 1 + t.length := by rw [hen]; simp [length_digs]; omega
      have hq1 := q1 (by rw [e1]; omega)
      have q5 : ∃ k, k ≠ 0 ∧ textsR T X.length (en - 1) [] = .error k := by
        rcases Nat.eq_zero_or_pos t.length with h0 | h0
        · exact ⟨2, by decide, textsR_none (by omega)⟩
        · have hc1 : cutL T X.length 1 = digs t.length 1 := by
            rw [hT, show (X ++ (digs t.length 1 ++ t)) ++ Y = (X ++ digs t.length 1) ++ (t ++ Y) by simp [List.append_assoc], cutL_more (by rw [List.length_append, length_digs]; omega), cutL_behind]
          have hnn : numN (cutL T X.length 1) = t.length := by rw [hc1, numN_digs hm2]
          exact ⟨3, by decide, textsR_short (by omega) (by simp) (by rw [hnn]; omega)⟩
      obtain ⟨k, hk0, hk⟩ := q5
      refine ⟨k, hk0, ?_⟩
      unfold readD
      rw [hq1, e1]
      simp only [bind, Except.bind, hh, hm, hbe, ht]
      simp [numsR, numsL]
      rw [if_pos (by omega)]
      simp [hk]
  · obtain ⟨hlt2, herr⟩ := E2 hh
    have ht : s.texts = false := by
      cases hx : s.texts
      · rfl
      · have := (sh.t hx).1; rw [hh] at this; cases this
    cases hm : s.mail
    · have hbe : s.behind = 0 := by
        rcases Nat.eq_zero_or_pos s.behind with h0 | h0
        · exact h0
        · have := sh.b h0; rw [hm] at this; cases this
      have hdn : d.nums.drop s.ahead = [] := List.eq_nil_of_length_eq_zero (by rw [hld, hbe])
      have he : en = x2.length := by rw [hen, hdn, sp.t0 ht, N3 hm]; simp [numsW, textsW]
      have hq1 := q1 (by omega)
      have hq2 := herr (S3 ++ (numsW 4 (d.nums.drop s.ahead) ++ (textsW d.texts ++ Y))) (en - 1) (by omega)
      rw [hT2] at hq2
      refine ⟨3, by decide, ?_⟩
      unfold readD
      rw [hq1]
      simp only [bind, Except.bind, hh, if_true]
      rw [hq2]
    · have hbe := (sh.m hm).2
      have hw4 := length_numsW_fit 4 (d.nums.drop s.ahead) hn.2
      rw [hld] at hw4
      have he : en = x3.length + s.behind * 4 := by
        rw [hen, sp.t0 ht]
        simp only [textsW, List.append_nil, List.length_append]
        have : (numsW 4 (d.nums.drop s.ahead)).length = s.behind * 4 := hw4
        omega
      have hq1 := q1 (by omega)
      have hq2 := R2 (S3 ++ (numsW 4 (d.nums.drop s.ahead) ++ (textsW d.texts ++ Y))) (en - 1) (by omega)
      rw [hT2] at hq2
      have hq3 := R3 (numsW 4 (d.nums.drop s.ahead) ++ (textsW d.texts ++ Y)) (en - 1) (by omega)
      rw [hT3] at hq3
      have hq4 : numsR T x3.length (en - 1) 4 s.behind = .error 3 := by rw [numsR, if_neg (by omega)]
      refine ⟨3, by decide, ?_⟩
      unfold readD
      rw [hq1]
      simp only [bind, Except.bind]
      rw [hq2]
      simp only []
      rw [hq3]
      simp only []
      rw [hq4]

end Go.Proofs.YthppgofpbpjglaaGreat

namespace Go.Proofs.YthppgofpbpjglaaGreat
open Go.RowKit

theorem makeFunc_run (fn : Fn) (first cap : Array Value) (w : World) : (Instr.makeFunc fn first cap).run Tryz.prog w = .ok (.func fn first cap) w := rfl






























































































































































theorem no_data (w : World) (B : Nat) : OwnD w B ⟨none, none, none, none, none, 0, 0, 0, 0, 0⟩ ⟨[], [], [], [], []⟩ :=
  ⟨World.ownsRow_nil _ _ _ _, World.ownsRow_nil _ _ _ _, World.ownsRow_nil _ _ _ _, World.ownsRow_nil _ _ _ _, World.ownsRow_nil _ _ _ _⟩














































































end Go.Proofs.YthppgofpbpjglaaGreat

namespace Go.Proofs.YthppgofpbpjglaaGreat
open Go.RowKit

/-- The number of s bytes at p. -/
def numAt (b : List UInt8) (p s : Nat) : Nat := numN (cutL b p s)
/-- A TTL as it is read. -/
def ttlAt (b : List UInt8) (p : Nat) : Nat := if 2147483647 < numAt b p 4 then 0 else numAt b p 4
theorem getL_num {b : List UInt8} {p s : Nat} (h1 : 1 ≤ s) (h2 : s ≤ 7) (h : p + s ≤ b.length) : getL b p s = ((numAt b p s : Int), (0 : Int)) := getL_ok h1 h2 h
theorem numAt_lt (b : List UInt8) (p s : Nat) : numAt b p s < 2 ^ (8 * s) := by
  unfold numAt
  have h := numN_lt (cutL b p s)
  have h2 : (cutL b p s).length ≤ s := by unfold cutL; simp; omega
  rw [show (256 : Nat) = 2 ^ 8 by rfl, ← Nat.pow_mul] at h
  exact Nat.lt_of_lt_of_le h (Nat.pow_le_pow_right (by omega) (by omega))
































































end Go.Proofs.YthppgofpbpjglaaGreat

namespace Go.Proofs.YthppgofpbpjglaaGreat
open Go.RowKit

theorem nextR_le {b : List UInt8} {x p : Nat} (hx : x ≤ b.length) (hp : p ≤ b.length) : nextR x p ≤ b.length := by
  unfold nextR
  split <;> assumption
theorem getR_le (b : List UInt8) (p q x : Nat) (n : List (List UInt8)) (hx : x ≤ b.length) : (getR b p q x n).2.1 ≤ b.length := by
  fun_induction getR b p q x n
  all_goals first
    | exact Nat.zero_le _
    | exact nextR_le hx (by omega)
    | (rename_i ih; exact ih (nextR_le hx (by omega)))
    | (rename_i ih; exact ih hx)
theorem getW_le (b : List UInt8) (a : Int) : (getW b a).2.1 ≤ b.length := by
  unfold getW
  split
  · exact Nat.zero_le _
  · exact getR_le b _ _ 0 [] (Nat.zero_le _)

def zeroR : Rt := ⟨[], 0, 0, 0, ⟨[], [], [], [], []⟩⟩
def zeroV : RV := ⟨none, 0, ⟨none, none, none, none, none, 0, 0, 0, 0, 0⟩⟩
theorem zero_own (w : World) (B : Nat) : OwnR w B zeroV zeroR := ⟨World.ownsRow_nil _ _ _ _, no_data w B⟩
/-- The record that begins at a, and the place behind it. -/
def getRR (b : List UInt8) (a : Int) : Rt × Nat × Nat :=
  if (getW b a).2.2 ≠ 0 then (zeroR, 0, (getW b a).2.2) else
  if b.length < (getW b a).2.1 + 10 then (zeroR, 0, 3) else
  if numAt b (getW b a).2.1 2 = 0 then (zeroR, 0, 2) else
  if (getD b (((getW b a).2.1 : Int) + 10) (numAt b ((getW b a).2.1 + 8) 2) (numAt b (getW b a).2.1 2)).2 ≠ 0 then (zeroR, 0, (getD b (((getW b a).2.1 : Int) + 10) (numAt b ((getW b a).2.1 + 8) 2) (numAt b (getW b a).2.1 2)).2) else
  (⟨(getW b a).1, numAt b (getW b a).2.1 2, numAt b ((getW b a).2.1 + 2) 2, ttlAt b ((getW b a).2.1 + 4), (getD b (((getW b a).2.1 : Int) + 10) (numAt b ((getW b a).2.1 + 8) 2) (numAt b (getW b a).2.1 2)).1⟩, (getW b a).2.1 + 10 + numAt b ((getW b a).2.1 + 8) 2, 0)
/-- What the call leaves: a record in slices of its own, the place, the error. -/
def GotR (w : World) (r : Rt × Nat × Nat) (e : Ending) (w' : World) : Prop :=
  ∃ x : RV, e = .returned (.tuple #[x.val r.1, .int .i64 r.2.1, .int .i64 r.2.2]) ∧ OwnR w' w.heap.size x r.1 ∧ Below w.heap.size w w'

/-- A whole record is stored; of the new world this much is told. -/
theorem wpList_storeRR {w : World} {ops : Array Oper} {rest : List Oper} {o : Oper} {a : Act} {Q : Exit → Act → World → Prop} (g k1 k2 : Nat) (y : RV) (r : Rt) (L : List Value) (hg : o.guard = none) (ho : o.op = .store 46 (.tmp k1) (.tmp k2))
    (h2 : a.tmps[k1]? = some (.pointer (some ⟨g, 0, none⟩))) (hu : a.tmps[k2]? = some (y.val r)) (hw : Whole w g 46 L) (hl : L.length = 9)
    (h : ∀ V, Whole V g 46 (cellsR (y, r)) → Below g w V → (∀ j, j ≠ g → V.heap[j]? = w.heap[j]?) → V.heap.size = w.heap.size → wpList Tryz.prog ops Q rest (a.put o.dst undef) V) : wpList Tryz.prog ops Q (o :: rest) a w := by
  match L, hl with
  | [u0, u1, u2, u3, u4, u5, u6, u7, u8], _ =>
  have q0 : w.cell? ⟨g, 0, none⟩ = some u0 := hw.cell 0
  have z0 : w.frozen? ⟨g, 0, none⟩ = false := hw.frozen 0
  have q1 : w.cell? ⟨g, 1, none⟩ = some u1 := hw.cell 1
  have z1 : w.frozen? ⟨g, 1, none⟩ = false := hw.frozen 1
  have q2 : w.cell? ⟨g, 2, none⟩ = some u2 := hw.cell 2
  have z2 : w.frozen? ⟨g, 2, none⟩ = false := hw.frozen 2
  have q3 : w.cell? ⟨g, 3, none⟩ = some u3 := hw.cell 3
  have z3 : w.frozen? ⟨g, 3, none⟩ = false := hw.frozen 3
  have q4 : w.cell? ⟨g, 4, none⟩ = some u4 := hw.cell 4
  have z4 : w.frozen? ⟨g, 4, none⟩ = false := hw.frozen 4
  have q5 : w.cell? ⟨g, 5, none⟩ = some u5 := hw.cell 5
  have z5 : w.frozen? ⟨g, 5, none⟩ = false := hw.frozen 5
  have q6 : w.cell? ⟨g, 6, none⟩ = some u6 := hw.cell 6
  have z6 : w.frozen? ⟨g, 6, none⟩ = false := hw.frozen 6
  have q7 : w.cell? ⟨g, 7, none⟩ = some u7 := hw.cell 7
  have z7 : w.frozen? ⟨g, 7, none⟩ = false := hw.frozen 7
  have q8 : w.cell? ⟨g, 8, none⟩ = some u8 := hw.cell 8
  have z8 : w.frozen? ⟨g, 8, none⟩ = false := hw.frozen 8
  have hk := h (((((((((w.setCell ⟨g, 0, none⟩ (.slice y.A r.name.length y.c)).setCell ⟨g, 1, none⟩ (.int .i64 r.kind)).setCell ⟨g, 2, none⟩ (.int .i64 r.cls)).setCell ⟨g, 3, none⟩ (.int .i64 r.ttl)).setCell ⟨g, 4, none⟩ (.slice y.d.Ab r.data.bytes.length y.d.cb)).setCell ⟨g, 5, none⟩ (.slice y.d.Ah r.data.host.length y.d.ch)).setCell ⟨g, 6, none⟩ (.slice y.d.Am r.data.mail.length y.d.cm)).setCell ⟨g, 7, none⟩ (.slice y.d.An r.data.nums.length y.d.cn)).setCell ⟨g, 8, none⟩ (.slice y.d.At r.data.texts.length y.d.ct))
    (((((((((hw.set_ 0 _).set_ 1 _).set_ 2 _).set_ 3 _).set_ 4 _).set_ 5 _).set_ 6 _).set_ 7 _).set_ 8 _)
    (by
      have hs (W : World) (i : Nat) (u : Value) : Below g W (W.setCell ⟨g, i, none⟩ u) := (Below.refl _ W).setCell (p := ⟨g, i, none⟩) (Nat.le_refl _) u
      exact ((((((((hs _ 0 _).trans (hs _ 1 _)).trans (hs _ 2 _)).trans (hs _ 3 _)).trans (hs _ 4 _)).trans (hs _ 5 _)).trans (hs _ 6 _)).trans (hs _ 7 _)).trans (hs _ 8 _))
    (fun j hj => by
      have hs (W : World) (i : Nat) (u : Value) : (W.setCell ⟨g, i, none⟩ u).heap[j]? = W.heap[j]? := Below.heap_setCell W ⟨g, i, none⟩ u j hj
      rw [hs, hs, hs, hs, hs, hs, hs, hs, hs])
    (by simp)
  refine wpList_plain hg fun K hK => ?_
  have hk2 := hK _ _ hk
  unfold Oper.wp
  simp [execOp, ho, go_sem, h2, hu, q0, q1, q2, q3, q4, q5, q6, q7, q8, z0, z1, z2, z3, z4, z5, z6, z7, z8]
  exact hk2


































































































































































































































































end Go.Proofs.YthppgofpbpjglaaGreat
