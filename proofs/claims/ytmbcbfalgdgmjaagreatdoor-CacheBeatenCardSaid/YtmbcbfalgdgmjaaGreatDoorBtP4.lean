/-
  The contract of the document's Sound of facts that say there is nothing, part 3.
-/
import Derived.Test.YtmbcbfalgdgmjaaGreatDoorKcP5
import Derived.Test.YtmbcbfalgdgmjaaGreatDoorBtP2
import Derived.Test.YtmbcbfalgdgmjaaGreatDoorBtP3
import Derived.Test.YtmbcbfalgdgmjaaGreatDoorBtP1
namespace Go.Proofs.YtmbcbfalgdgmjaaGreatDoor
open Go.RowKit

set_option maxRecDepth 20000 in
set_option maxHeartbeats 8000000 in
theorem fno_2f (w : World) (x : FV) (hx : FAt w w.heap.size x) (hi : FIn x) (hh : headB x.name x.h = true) (k1 : x.h.knd = 2) (hty : typedB x.h.typ = true) (hset : x.sp.length = 0) (httl : x.h.ttl ≤ 10800) (hz : soundN x.zone = true) (hu : underN x.name x.zone = false) : Calls Tryz.prog 20 #[x.val] w (Gave w (.bool false)) := by
  have hsz1 := soundN_sz (headB_parts hh).1
  have hsz2 := soundN_sz hz
  have HUN := Lib.hid (fun W (h : FBoxes w x W) => ref_under_any x.A x.zA x.name.length x.zone.length x.c x.zc w.heap.size x.name x.zone W rfl rfl (hx.n.below h.below) (hx.z.below h.below) (Nat.le_trans (Nat.le_add_right _ 2) h.size) hsz1 hsz2 hx.ln)
  rw [hu] at HUN
  clear hsz1 hsz2 hu
  have HSZ := Lib.hid (fun W' (hb : Below w.heap.size w W') => ref_sound_wide x.zA x.zc w.heap.size x.zone W' (hx.z.below hb) hi.z.1 hi.z.2)
  rw [hz] at HSZ
  clear hz
  obtain ⟨W, hW⟩ : ∃ W, W = w.alloc (.cells #[.slice x.A x.name.length x.c, .int .i64 x.h.typ, .int .i64 x.h.knd, .int .i64 x.h.rank, .int .i64 x.h.got, .int .i64 x.h.ttl, .slice x.sA x.sp.length x.sc, .slice x.zA x.zone.length x.zc, .slice x.d.Ab x.soa.bytes.length x.d.cb, .slice x.d.Ah x.soa.host.length x.d.ch, .slice x.d.Am x.soa.mail.length x.d.cm, .slice x.d.An x.soa.nums.length x.d.cn, .slice x.d.At x.soa.texts.length x.d.ct] 36) := ⟨_, rfl⟩
  have hB : Below w.heap.size w W := by rw [hW]; exact (Below.refl _ _).alloc (Nat.le_refl _) _
  have HB := Lib.hid hB
  have HN := Lib.hid (fun W' (hb : Below w.heap.size w W') => ref_sound_wide x.A x.c w.heap.size x.name W' (hx.n.below hb) hi.n.1 hi.n.2)
  have HT := Lib.hid (fun W' => time_any x.h.got W')
  have HX := Lib.hid hx
  have HI := Lib.hid hi
  have HTY := Lib.hid (fun W' => typed_any x.h.typ W')
  rw [hty] at HTY
  have b1 : (x.h.knd == 1) = false := by rw [k1]; rfl
  have b2 : (x.h.knd == 2) = true := by rw [k1]; rfl
  have b3 : (x.h.knd == 3) = false := by rw [k1]; rfl
  have HHP := Lib.hid (headB_parts hh)
  have HK := Lib.hid k1
  clear hx hi hh hB hty k1
  subst hW
  obtain ⟨hn, h1, h2, ht, h3, h4⟩ := HHP.out
  rw [hn] at HN
  rw [ht] at HT
  have d1 : decide (x.h.rank < 1) = false := decide_eq_false (by omega)
  have d2 : decide (4 < x.h.rank) = false := decide_eq_false (by omega)
  have d3 : decide (x.h.ttl < 0) = false := decide_eq_false (by omega)
  have d4 : decide (604800 < x.h.ttl) = false := decide_eq_false (by omega)
  clear hn ht h1 h2 h3 h4 HHP
  have b6 : ((x.sp.length : Int) == 0) = true := by rw [hset]; rfl
  have HL := Lib.hid hset
  clear hset
  have e5 : decide (x.h.ttl ≤ 10800) = true := decide_eq_true httl
  clear httl
  have HCS := Lib.hid (show ∀ W, FBoxes w x W → (W.cell? ⟨w.heap.size, 0, none⟩ = some (.slice x.A x.name.length x.c) ∧ W.cell? ⟨w.heap.size, 1, none⟩ = some (.int .i64 x.h.typ) ∧ W.cell? ⟨w.heap.size, 2, none⟩ = some (.int .i64 x.h.knd) ∧ W.cell? ⟨w.heap.size, 5, none⟩ = some (.int .i64 x.h.ttl) ∧ W.cell? ⟨w.heap.size, 6, none⟩ = some (.slice x.sA x.sp.length x.sc) ∧ W.cell? ⟨w.heap.size, 7, none⟩ = some (.slice x.zA x.zone.length x.zc)) ∧ (W.cell? ⟨w.heap.size + 1, 0, none⟩ = some (.slice x.d.Ab x.soa.bytes.length x.d.cb) ∧ W.cell? ⟨w.heap.size + 1, 1, none⟩ = some (.slice x.d.Ah x.soa.host.length x.d.ch) ∧ W.cell? ⟨w.heap.size + 1, 2, none⟩ = some (.slice x.d.Am x.soa.mail.length x.d.cm) ∧ W.cell? ⟨w.heap.size + 1, 3, none⟩ = some (.slice x.d.An x.soa.nums.length x.d.cn) ∧ W.cell? ⟨w.heap.size + 1, 4, none⟩ = some (.slice x.d.At x.soa.texts.length x.d.ct)) from fun W h => ⟨⟨h.f.cell 0, h.f.cell 1, h.f.cell 2, h.f.cell 5, h.f.cell 6, h.f.cell 7⟩, ⟨h.d.cell 0, h.d.cell 1, h.d.cell 2, h.d.cell 3, h.d.cell 4⟩⟩)
  have HBX := Lib.hid (FBoxes.made w x)
  go_enter Tryz.func20, Tryz.ntmps20
  go_wp2_with (first
    | (go_at_call 24; refine (HN.out _ HB.out).mono ?_; rintro e w1 ⟨rfl, rfl⟩)
    | (go_at_call 32; refine (HT.out _).mono ?_; rintro e w1 ⟨rfl, rfl⟩))
  refine wp_region_held_drew (S := fun W => (W.cell? ⟨w.heap.size, 0, none⟩ = some (.slice x.A x.name.length x.c) ∧ W.cell? ⟨w.heap.size, 1, none⟩ = some (.int .i64 x.h.typ) ∧ W.cell? ⟨w.heap.size, 2, none⟩ = some (.int .i64 x.h.knd) ∧ W.cell? ⟨w.heap.size, 5, none⟩ = some (.int .i64 x.h.ttl) ∧ W.cell? ⟨w.heap.size, 6, none⟩ = some (.slice x.sA x.sp.length x.sc) ∧ W.cell? ⟨w.heap.size, 7, none⟩ = some (.slice x.zA x.zone.length x.zc)) ∧ (W.cell? ⟨w.heap.size + 1, 0, none⟩ = some (.slice x.d.Ab x.soa.bytes.length x.d.cb) ∧ W.cell? ⟨w.heap.size + 1, 1, none⟩ = some (.slice x.d.Ah x.soa.host.length x.d.ch) ∧ W.cell? ⟨w.heap.size + 1, 2, none⟩ = some (.slice x.d.Am x.soa.mail.length x.d.cm) ∧ W.cell? ⟨w.heap.size + 1, 3, none⟩ = some (.slice x.d.An x.soa.nums.length x.d.cn) ∧ W.cell? ⟨w.heap.size + 1, 4, none⟩ = some (.slice x.d.At x.soa.texts.length x.d.ct))) (by kernel_rfl) (by exact HCS.out _ HBX.out) (fun hHeld => ?_)
  refine takeY 0 ⟨some 124, _, _, _, _, _⟩ (v := ?_) ?_ ?_
  rotate_left
  · intro W hSw
    try dsimp only at hSw
    go_simp
    all_goals (with_reducible rfl)
  try simp only [Act.put, List.setIfInBounds_toArray, List.set_cons_zero, List.set_cons_succ]
  refine takeY 1 ⟨some 125, _, _, _, _, _⟩ (v := ?_) ?_ ?_
  rotate_left
  · intro W hSw
    try dsimp only at hSw
    go_simp
    all_goals (with_reducible rfl)
  try simp only [Act.put, List.setIfInBounds_toArray, List.set_cons_zero, List.set_cons_succ]
  refine takeY 2 ⟨some 126, _, _, _, _, _⟩ (v := ?_) ?_ ?_
  rotate_left
  · intro W hSw
    try dsimp only at hSw
    go_simp
    all_goals (with_reducible rfl)
  try simp only [Act.put, List.setIfInBounds_toArray, List.set_cons_zero, List.set_cons_succ]
  refine takeY 3 ⟨some 127, _, _, _, _, _⟩ (v := ?_) ?_ ?_
  rotate_left
  · intro W hSw
    try dsimp only at hSw
    go_simp
    all_goals (with_reducible rfl)
  try simp only [Act.put, List.setIfInBounds_toArray, List.set_cons_zero, List.set_cons_succ]
  refine takeY 4 ⟨some 128, _, _, _, _, _⟩ (v := ?_) ?_ ?_
  rotate_left
  · intro W hSw
    try dsimp only at hSw
    go_simp
    all_goals (with_reducible rfl)
  try simp only [Act.put, List.setIfInBounds_toArray, List.set_cons_zero, List.set_cons_succ]
  refine wpAnyH_ready (rs := [5]) (by kernel_rfl) (by simp) ?_
  refine AllReadyH.cons (o := { dst := some 129, op := Go.Op.call { callee := Go.Callee.value (Go.Operand.func 41), args := #[Go.Operand.tmp 128], argTypes := #[3] }, type := 4, pos := "ref.go:78", after := #[{ on := 4, ground := Go.Ground.data }], guard := none }) rfl (fun K hK => ?_) AllReadyH.nil
  go_simp
  refine (HTY.out _).mono ?_
  rintro e w1 ⟨rfl, rfl⟩
  refine hK.out _ _ (by exact hHeld) (fun hHeld2 => ?_)
  clear hK K hHeld
  have hHeld := hHeld2
  clear hHeld2
  try simp only [Act.put, List.setIfInBounds_toArray, List.set_cons_zero, List.set_cons_succ]
  refine takeY 6 ⟨some 130, _, _, _, _, _⟩ (v := ?_) ?_ ?_
  rotate_left
  · intro W hSw
    try dsimp only at hSw
    go_simp
    all_goals (with_reducible rfl)
  try simp only [Act.put, List.setIfInBounds_toArray, List.set_cons_zero, List.set_cons_succ]
  refine takeY 7 ⟨some 131, _, _, _, _, _⟩ (v := ?_) ?_ ?_
  rotate_left
  · intro W hSw
    try dsimp only at hSw
    go_simp
    all_goals (with_reducible rfl)
  try simp only [Act.put, List.setIfInBounds_toArray, List.set_cons_zero, List.set_cons_succ]
  refine takeY 8 ⟨some 132, _, _, _, _, _⟩ (v := ?_) ?_ ?_
  rotate_left
  · intro W hSw
    try dsimp only at hSw
    go_simp
    all_goals (with_reducible rfl)
  try simp only [Act.put, List.setIfInBounds_toArray, List.set_cons_zero, List.set_cons_succ]
  refine takeY 9 ⟨some 133, _, _, _, _, _⟩ (v := ?_) ?_ ?_
  rotate_left
  · intro W hSw
    try dsimp only at hSw
    go_simp
    all_goals (with_reducible rfl)
  try simp only [Act.put, List.setIfInBounds_toArray, List.set_cons_zero, List.set_cons_succ]
  refine takeY 10 ⟨some 134, _, _, _, _, _⟩ (v := ?_) ?_ ?_
  rotate_left
  · intro W hSw
    try dsimp only at hSw
    go_simp
    all_goals (with_reducible rfl)
  try simp only [Act.put, List.setIfInBounds_toArray, List.set_cons_zero, List.set_cons_succ]
  refine takeY 11 ⟨some 135, _, _, _, _, _⟩ (v := ?_) ?_ ?_
  rotate_left
  · intro W hSw
    try dsimp only at hSw
    go_simp
    all_goals (with_reducible rfl)
  try simp only [Act.put, List.setIfInBounds_toArray, List.set_cons_zero, List.set_cons_succ]
  refine takeN 12 ⟨some 136, _, _, _, _, _⟩ ?_
  try simp only [Act.put, List.setIfInBounds_toArray, List.set_cons_zero, List.set_cons_succ]
  refine takeN 13 ⟨some 137, _, _, _, _, _⟩ ?_
  try simp only [Act.put, List.setIfInBounds_toArray, List.set_cons_zero, List.set_cons_succ]
  refine takeN 14 ⟨some 138, _, _, _, _, _⟩ ?_
  try simp only [Act.put, List.setIfInBounds_toArray, List.set_cons_zero, List.set_cons_succ]
  refine takeY 15 ⟨some 139, _, _, _, _, _⟩ (v := ?_) ?_ ?_
  rotate_left
  · intro W hSw
    try dsimp only at hSw
    go_simp
    all_goals (with_reducible rfl)
  try simp only [Act.put, List.setIfInBounds_toArray, List.set_cons_zero, List.set_cons_succ]
  refine takeY 16 ⟨some 140, _, _, _, _, _⟩ (v := ?_) ?_ ?_
  rotate_left
  · intro W hSw
    try dsimp only at hSw
    go_simp
    all_goals (with_reducible rfl)
  try simp only [Act.put, List.setIfInBounds_toArray, List.set_cons_zero, List.set_cons_succ]
  refine takeY 17 ⟨some 141, _, _, _, _, _⟩ (v := ?_) ?_ ?_
  rotate_left
  · intro W hSw
    try dsimp only at hSw
    go_simp
    all_goals (with_reducible rfl)
  try simp only [Act.put, List.setIfInBounds_toArray, List.set_cons_zero, List.set_cons_succ]
  refine takeY 18 ⟨some 142, _, _, _, _, _⟩ (v := ?_) ?_ ?_
  rotate_left
  · intro W hSw
    try dsimp only at hSw
    go_simp
    all_goals (with_reducible rfl)
  try simp only [Act.put, List.setIfInBounds_toArray, List.set_cons_zero, List.set_cons_succ]
  refine takeY 19 ⟨some 143, _, _, _, _, _⟩ (v := ?_) ?_ ?_
  rotate_left
  · intro W hSw
    try dsimp only at hSw
    go_simp
    all_goals (with_reducible rfl)
  try simp only [Act.put, List.setIfInBounds_toArray, List.set_cons_zero, List.set_cons_succ]
  refine takeY 20 ⟨some 144, _, _, _, _, _⟩ (v := ?_) ?_ ?_
  rotate_left
  · intro W hSw
    try dsimp only at hSw
    go_simp
    all_goals (with_reducible rfl)
  try simp only [Act.put, List.setIfInBounds_toArray, List.set_cons_zero, List.set_cons_succ]
  refine takeY 21 ⟨some 145, _, _, _, _, _⟩ (v := ?_) ?_ ?_
  rotate_left
  · intro W hSw
    try dsimp only at hSw
    go_simp
    all_goals (with_reducible rfl)
  try simp only [Act.put, List.setIfInBounds_toArray, List.set_cons_zero, List.set_cons_succ]
  refine takeY 22 ⟨some 146, _, _, _, _, _⟩ (v := ?_) ?_ ?_
  rotate_left
  · intro W hSw
    try dsimp only at hSw
    go_simp
    all_goals (with_reducible rfl)
  try simp only [Act.put, List.setIfInBounds_toArray, List.set_cons_zero, List.set_cons_succ]
  refine takeY 23 ⟨some 147, _, _, _, _, _⟩ (v := ?_) ?_ ?_
  rotate_left
  · intro W hSw
    try dsimp only at hSw
    go_simp
    all_goals (with_reducible rfl)
  try simp only [Act.put, List.setIfInBounds_toArray, List.set_cons_zero, List.set_cons_succ]
  refine takeY 24 ⟨some 148, _, _, _, _, _⟩ (v := ?_) ?_ ?_
  rotate_left
  · intro W hSw
    try dsimp only at hSw
    go_simp
    all_goals (with_reducible rfl)
  try simp only [Act.put, List.setIfInBounds_toArray, List.set_cons_zero, List.set_cons_succ]
  refine takeY 25 ⟨some 149, _, _, _, _, _⟩ (v := ?_) ?_ ?_
  rotate_left
  · intro W hSw
    try dsimp only at hSw
    go_simp
    all_goals (with_reducible rfl)
  try simp only [Act.put, List.setIfInBounds_toArray, List.set_cons_zero, List.set_cons_succ]
  refine takeY 26 ⟨some 150, _, _, _, _, _⟩ (v := ?_) ?_ ?_
  rotate_left
  · intro W hSw
    try dsimp only at hSw
    go_simp
    all_goals (with_reducible rfl)
  try simp only [Act.put, List.setIfInBounds_toArray, List.set_cons_zero, List.set_cons_succ]
  refine takeY 27 ⟨some 151, _, _, _, _, _⟩ (v := ?_) ?_ ?_
  rotate_left
  · intro W hSw
    try dsimp only at hSw
    go_simp
    all_goals (with_reducible rfl)
  try simp only [Act.put, List.setIfInBounds_toArray, List.set_cons_zero, List.set_cons_succ]
  refine takeY 28 ⟨some 152, _, _, _, _, _⟩ (v := ?_) ?_ ?_
  rotate_left
  · intro W hSw
    try dsimp only at hSw
    go_simp
    all_goals (with_reducible rfl)
  try simp only [Act.put, List.setIfInBounds_toArray, List.set_cons_zero, List.set_cons_succ]
  refine takeY 29 ⟨some 153, _, _, _, _, _⟩ (v := ?_) ?_ ?_
  rotate_left
  · intro W hSw
    try dsimp only at hSw
    go_simp
    all_goals (with_reducible rfl)
  try simp only [Act.put, List.setIfInBounds_toArray, List.set_cons_zero, List.set_cons_succ]
  refine takeY 30 ⟨some 154, _, _, _, _, _⟩ (v := ?_) ?_ ?_
  rotate_left
  · intro W hSw
    try dsimp only at hSw
    go_simp
    all_goals (with_reducible rfl)
  try simp only [Act.put, List.setIfInBounds_toArray, List.set_cons_zero, List.set_cons_succ]
  refine wpAnyH_ready (rs := [31]) (by kernel_rfl) (by simp) ?_
  refine AllReadyH.cons (o := { dst := some 155, op := Go.Op.call { callee := Go.Callee.value (Go.Operand.func 24), args := #[Go.Operand.tmp 154], argTypes := #[29] }, type := 4, pos := "ref.go:78", after := #[{ on := 30, ground := Go.Ground.data }, { on := 28, ground := Go.Ground.chain }, { on := 28, ground := Go.Ground.guard }], guard := some (28, true) }) rfl (fun K hK => ?_) AllReadyH.nil
  go_simp
  refine (HSZ.out _ HBX.out.below).mono ?_
  rintro e w1 ⟨rfl, rfl⟩
  refine hK.out _ _ (by exact hHeld) (fun hHeld2 => ?_)
  clear hK K hHeld
  have hHeld := hHeld2
  clear hHeld2
  try simp only [Act.put, List.setIfInBounds_toArray, List.set_cons_zero, List.set_cons_succ]
  refine takeY 32 ⟨some 156, _, _, _, _, _⟩ (v := ?_) ?_ ?_
  rotate_left
  · intro W hSw
    try dsimp only at hSw
    go_simp
    all_goals (with_reducible rfl)
  try simp only [Act.put, List.setIfInBounds_toArray, List.set_cons_zero, List.set_cons_succ]
  refine takeY 33 ⟨some 157, _, _, _, _, _⟩ (v := ?_) ?_ ?_
  rotate_left
  · intro W hSw
    try dsimp only at hSw
    go_simp
    all_goals (with_reducible rfl)
  try simp only [Act.put, List.setIfInBounds_toArray, List.set_cons_zero, List.set_cons_succ]
  refine takeY 34 ⟨some 158, _, _, _, _, _⟩ (v := ?_) ?_ ?_
  rotate_left
  · intro W hSw
    try dsimp only at hSw
    go_simp
    all_goals (with_reducible rfl)
  try simp only [Act.put, List.setIfInBounds_toArray, List.set_cons_zero, List.set_cons_succ]
  refine takeY 35 ⟨some 159, _, _, _, _, _⟩ (v := ?_) ?_ ?_
  rotate_left
  · intro W hSw
    try dsimp only at hSw
    go_simp
    all_goals (with_reducible rfl)
  try simp only [Act.put, List.setIfInBounds_toArray, List.set_cons_zero, List.set_cons_succ]
  refine takeY 36 ⟨some 160, _, _, _, _, _⟩ (v := ?_) ?_ ?_
  rotate_left
  · intro W hSw
    try dsimp only at hSw
    go_simp
    all_goals (with_reducible rfl)
  try simp only [Act.put, List.setIfInBounds_toArray, List.set_cons_zero, List.set_cons_succ]
  refine takeY 37 ⟨some 161, _, _, _, _, _⟩ (v := ?_) ?_ ?_
  rotate_left
  · intro W hSw
    try dsimp only at hSw
    go_simp
    all_goals (with_reducible rfl)
  try simp only [Act.put, List.setIfInBounds_toArray, List.set_cons_zero, List.set_cons_succ]
  refine wpAnyH_ready (rs := [38]) (by kernel_rfl) (by simp) ?_
  refine AllReadyH.cons (o := { dst := some 162, op := Go.Op.call { callee := Go.Callee.value (Go.Operand.func 18), args := #[Go.Operand.tmp 159, Go.Operand.tmp 161], argTypes := #[29, 29] }, type := 4, pos := "ref.go:78", after := #[{ on := 35, ground := Go.Ground.data }, { on := 37, ground := Go.Ground.data }, { on := 33, ground := Go.Ground.chain }, { on := 33, ground := Go.Ground.guard }], guard := some (33, true) }) rfl (fun K hK => ?_) AllReadyH.nil
  go_simp
  refine (HUN.out _ HBX.out).mono ?_
  rintro e w2 ⟨rfl, hb2⟩
  have HB2 := Lib.hid (HBX.out.step hb2)
  clear hb2
  refine hK.out _ _ (by exact HCS.out _ HB2.out) (fun hHeld2 => ?_)
  clear hK K hHeld
  have hHeld := hHeld2
  clear hHeld2
  try simp only [Act.put, List.setIfInBounds_toArray, List.set_cons_zero, List.set_cons_succ]
  refine takeY 39 ⟨some 163, _, _, _, _, _⟩ (v := ?_) ?_ ?_
  rotate_left
  · intro W hSw
    try dsimp only at hSw
    go_simp
    all_goals (with_reducible rfl)
  try simp only [Act.put, List.setIfInBounds_toArray, List.set_cons_zero, List.set_cons_succ]
  refine takeY 40 ⟨some 164, _, _, _, _, _⟩ (v := ?_) ?_ ?_
  rotate_left
  · intro W hSw
    try dsimp only at hSw
    go_simp
    all_goals (with_reducible rfl)
  try simp only [Act.put, List.setIfInBounds_toArray, List.set_cons_zero, List.set_cons_succ]
  refine takeN 41 ⟨some 165, _, _, _, _, _⟩ ?_
  try simp only [Act.put, List.setIfInBounds_toArray, List.set_cons_zero, List.set_cons_succ]
  refine takeN 42 ⟨some 166, _, _, _, _, _⟩ ?_
  try simp only [Act.put, List.setIfInBounds_toArray, List.set_cons_zero, List.set_cons_succ]
  refine takeY 43 ⟨some 167, _, _, _, _, _⟩ (v := ?_) ?_ ?_
  rotate_left
  · intro W hSw
    try dsimp only at hSw
    go_simp
    all_goals (with_reducible rfl)
  try simp only [Act.put, List.setIfInBounds_toArray, List.set_cons_zero, List.set_cons_succ]
  refine takeY 44 ⟨some 2, _, _, _, _, _⟩ (v := ?_) ?_ ?_
  rotate_left
  · intro W hSw
    try dsimp only at hSw
    go_simp
    all_goals (with_reducible rfl)
  try simp only [Act.put, List.setIfInBounds_toArray, List.set_cons_zero, List.set_cons_succ]
  refine wpAnyH_done (by kernel_rfl) ?_ _
  go_wp2
  go_ret
  exact ⟨rfl, HB2.out.below⟩

set_option maxRecDepth 20000 in
set_option maxHeartbeats 8000000 in
theorem fno_3f (w : World) (x : FV) (hx : FAt w w.heap.size x) (hi : FIn x) (hh : headB x.name x.h = true) (k1 : x.h.knd = 3) (hty : typedB x.h.typ = false) (ht0 : x.h.typ = 0) (hset : x.sp.length = 0) (httl : x.h.ttl ≤ 10800) (hz : soundN x.zone = true) (hu : underN x.name x.zone = false) : Calls Tryz.prog 20 #[x.val] w (Gave w (.bool false)) := by
  have hsz1 := soundN_sz (headB_parts hh).1
  have hsz2 := soundN_sz hz
  have HUN := Lib.hid (fun W (h : FBoxes w x W) => ref_under_any x.A x.zA x.name.length x.zone.length x.c x.zc w.heap.size x.name x.zone W rfl rfl (hx.n.below h.below) (hx.z.below h.below) (Nat.le_trans (Nat.le_add_right _ 2) h.size) hsz1 hsz2 hx.ln)
  rw [hu] at HUN
  clear hsz1 hsz2 hu
  have HSZ := Lib.hid (fun W' (hb : Below w.heap.size w W') => ref_sound_wide x.zA x.zc w.heap.size x.zone W' (hx.z.below hb) hi.z.1 hi.z.2)
  rw [hz] at HSZ
  clear hz
  obtain ⟨W, hW⟩ : ∃ W, W = w.alloc (.cells #[.slice x.A x.name.length x.c, .int .i64 x.h.typ, .int .i64 x.h.knd, .int .i64 x.h.rank, .int .i64 x.h.got, .int .i64 x.h.ttl, .slice x.sA x.sp.length x.sc, .slice x.zA x.zone.length x.zc, .slice x.d.Ab x.soa.bytes.length x.d.cb, .slice x.d.Ah x.soa.host.length x.d.ch, .slice x.d.Am x.soa.mail.length x.d.cm, .slice x.d.An x.soa.nums.length x.d.cn, .slice x.d.At x.soa.texts.length x.d.ct] 36) := ⟨_, rfl⟩
  have hB : Below w.heap.size w W := by rw [hW]; exact (Below.refl _ _).alloc (Nat.le_refl _) _
  have HB := Lib.hid hB
  have HN := Lib.hid (fun W' (hb : Below w.heap.size w W') => ref_sound_wide x.A x.c w.heap.size x.name W' (hx.n.below hb) hi.n.1 hi.n.2)
  have HT := Lib.hid (fun W' => time_any x.h.got W')
  have HX := Lib.hid hx
  have HI := Lib.hid hi
  have HTY := Lib.hid (fun W' => typed_any x.h.typ W')
  rw [hty] at HTY
  have b1 : (x.h.knd == 1) = false := by rw [k1]; rfl
  have b2 : (x.h.knd == 2) = false := by rw [k1]; rfl
  have b3 : (x.h.knd == 3) = true := by rw [k1]; rfl
  have HHP := Lib.hid (headB_parts hh)
  have HK := Lib.hid k1
  clear hx hi hh hB hty k1
  subst hW
  obtain ⟨hn, h1, h2, ht, h3, h4⟩ := HHP.out
  rw [hn] at HN
  rw [ht] at HT
  have d1 : decide (x.h.rank < 1) = false := decide_eq_false (by omega)
  have d2 : decide (4 < x.h.rank) = false := decide_eq_false (by omega)
  have d3 : decide (x.h.ttl < 0) = false := decide_eq_false (by omega)
  have d4 : decide (604800 < x.h.ttl) = false := decide_eq_false (by omega)
  clear hn ht h1 h2 h3 h4 HHP
  have b0 : (x.h.typ == 0) = true := by rw [ht0]; rfl
  clear ht0
  have b6 : ((x.sp.length : Int) == 0) = true := by rw [hset]; rfl
  have HL := Lib.hid hset
  clear hset
  have e5 : decide (x.h.ttl ≤ 10800) = true := decide_eq_true httl
  clear httl
  have HCS := Lib.hid (show ∀ W, FBoxes w x W → (W.cell? ⟨w.heap.size, 0, none⟩ = some (.slice x.A x.name.length x.c) ∧ W.cell? ⟨w.heap.size, 1, none⟩ = some (.int .i64 x.h.typ) ∧ W.cell? ⟨w.heap.size, 2, none⟩ = some (.int .i64 x.h.knd) ∧ W.cell? ⟨w.heap.size, 5, none⟩ = some (.int .i64 x.h.ttl) ∧ W.cell? ⟨w.heap.size, 6, none⟩ = some (.slice x.sA x.sp.length x.sc) ∧ W.cell? ⟨w.heap.size, 7, none⟩ = some (.slice x.zA x.zone.length x.zc)) ∧ (W.cell? ⟨w.heap.size + 1, 0, none⟩ = some (.slice x.d.Ab x.soa.bytes.length x.d.cb) ∧ W.cell? ⟨w.heap.size + 1, 1, none⟩ = some (.slice x.d.Ah x.soa.host.length x.d.ch) ∧ W.cell? ⟨w.heap.size + 1, 2, none⟩ = some (.slice x.d.Am x.soa.mail.length x.d.cm) ∧ W.cell? ⟨w.heap.size + 1, 3, none⟩ = some (.slice x.d.An x.soa.nums.length x.d.cn) ∧ W.cell? ⟨w.heap.size + 1, 4, none⟩ = some (.slice x.d.At x.soa.texts.length x.d.ct)) from fun W h => ⟨⟨h.f.cell 0, h.f.cell 1, h.f.cell 2, h.f.cell 5, h.f.cell 6, h.f.cell 7⟩, ⟨h.d.cell 0, h.d.cell 1, h.d.cell 2, h.d.cell 3, h.d.cell 4⟩⟩)
  have HBX := Lib.hid (FBoxes.made w x)
  go_enter Tryz.func20, Tryz.ntmps20
  go_wp2_with (first
    | (go_at_call 24; refine (HN.out _ HB.out).mono ?_; rintro e w1 ⟨rfl, rfl⟩)
    | (go_at_call 32; refine (HT.out _).mono ?_; rintro e w1 ⟨rfl, rfl⟩))
  refine wp_region_held_drew (S := fun W => (W.cell? ⟨w.heap.size, 0, none⟩ = some (.slice x.A x.name.length x.c) ∧ W.cell? ⟨w.heap.size, 1, none⟩ = some (.int .i64 x.h.typ) ∧ W.cell? ⟨w.heap.size, 2, none⟩ = some (.int .i64 x.h.knd) ∧ W.cell? ⟨w.heap.size, 5, none⟩ = some (.int .i64 x.h.ttl) ∧ W.cell? ⟨w.heap.size, 6, none⟩ = some (.slice x.sA x.sp.length x.sc) ∧ W.cell? ⟨w.heap.size, 7, none⟩ = some (.slice x.zA x.zone.length x.zc)) ∧ (W.cell? ⟨w.heap.size + 1, 0, none⟩ = some (.slice x.d.Ab x.soa.bytes.length x.d.cb) ∧ W.cell? ⟨w.heap.size + 1, 1, none⟩ = some (.slice x.d.Ah x.soa.host.length x.d.ch) ∧ W.cell? ⟨w.heap.size + 1, 2, none⟩ = some (.slice x.d.Am x.soa.mail.length x.d.cm) ∧ W.cell? ⟨w.heap.size + 1, 3, none⟩ = some (.slice x.d.An x.soa.nums.length x.d.cn) ∧ W.cell? ⟨w.heap.size + 1, 4, none⟩ = some (.slice x.d.At x.soa.texts.length x.d.ct))) (by kernel_rfl) (by exact HCS.out _ HBX.out) (fun hHeld => ?_)
  refine takeY 0 ⟨some 124, _, _, _, _, _⟩ (v := ?_) ?_ ?_
  rotate_left
  · intro W hSw
    try dsimp only at hSw
    go_simp
    all_goals (with_reducible rfl)
  try simp only [Act.put, List.setIfInBounds_toArray, List.set_cons_zero, List.set_cons_succ]
  refine takeY 1 ⟨some 125, _, _, _, _, _⟩ (v := ?_) ?_ ?_
  rotate_left
  · intro W hSw
    try dsimp only at hSw
    go_simp
    all_goals (with_reducible rfl)
  try simp only [Act.put, List.setIfInBounds_toArray, List.set_cons_zero, List.set_cons_succ]
  refine takeY 2 ⟨some 126, _, _, _, _, _⟩ (v := ?_) ?_ ?_
  rotate_left
  · intro W hSw
    try dsimp only at hSw
    go_simp
    all_goals (with_reducible rfl)
  try simp only [Act.put, List.setIfInBounds_toArray, List.set_cons_zero, List.set_cons_succ]
  refine takeY 3 ⟨some 127, _, _, _, _, _⟩ (v := ?_) ?_ ?_
  rotate_left
  · intro W hSw
    try dsimp only at hSw
    go_simp
    all_goals (with_reducible rfl)
  try simp only [Act.put, List.setIfInBounds_toArray, List.set_cons_zero, List.set_cons_succ]
  refine takeY 4 ⟨some 128, _, _, _, _, _⟩ (v := ?_) ?_ ?_
  rotate_left
  · intro W hSw
    try dsimp only at hSw
    go_simp
    all_goals (with_reducible rfl)
  try simp only [Act.put, List.setIfInBounds_toArray, List.set_cons_zero, List.set_cons_succ]
  refine wpAnyH_ready (rs := [5]) (by kernel_rfl) (by simp) ?_
  refine AllReadyH.cons (o := { dst := some 129, op := Go.Op.call { callee := Go.Callee.value (Go.Operand.func 41), args := #[Go.Operand.tmp 128], argTypes := #[3] }, type := 4, pos := "ref.go:78", after := #[{ on := 4, ground := Go.Ground.data }], guard := none }) rfl (fun K hK => ?_) AllReadyH.nil
  go_simp
  refine (HTY.out _).mono ?_
  rintro e w1 ⟨rfl, rfl⟩
  refine hK.out _ _ (by exact hHeld) (fun hHeld2 => ?_)
  clear hK K hHeld
  have hHeld := hHeld2
  clear hHeld2
  try simp only [Act.put, List.setIfInBounds_toArray, List.set_cons_zero, List.set_cons_succ]
  refine takeY 6 ⟨some 130, _, _, _, _, _⟩ (v := ?_) ?_ ?_
  rotate_left
  · intro W hSw
    try dsimp only at hSw
    go_simp
    all_goals (with_reducible rfl)
  try simp only [Act.put, List.setIfInBounds_toArray, List.set_cons_zero, List.set_cons_succ]
  refine takeY 7 ⟨some 131, _, _, _, _, _⟩ (v := ?_) ?_ ?_
  rotate_left
  · intro W hSw
    try dsimp only at hSw
    go_simp
    all_goals (with_reducible rfl)
  try simp only [Act.put, List.setIfInBounds_toArray, List.set_cons_zero, List.set_cons_succ]
  refine takeY 8 ⟨some 132, _, _, _, _, _⟩ (v := ?_) ?_ ?_
  rotate_left
  · intro W hSw
    try dsimp only at hSw
    go_simp
    all_goals (with_reducible rfl)
  try simp only [Act.put, List.setIfInBounds_toArray, List.set_cons_zero, List.set_cons_succ]
  refine takeY 9 ⟨some 133, _, _, _, _, _⟩ (v := ?_) ?_ ?_
  rotate_left
  · intro W hSw
    try dsimp only at hSw
    go_simp
    all_goals (with_reducible rfl)
  try simp only [Act.put, List.setIfInBounds_toArray, List.set_cons_zero, List.set_cons_succ]
  refine takeY 10 ⟨some 134, _, _, _, _, _⟩ (v := ?_) ?_ ?_
  rotate_left
  · intro W hSw
    try dsimp only at hSw
    go_simp
    all_goals (with_reducible rfl)
  try simp only [Act.put, List.setIfInBounds_toArray, List.set_cons_zero, List.set_cons_succ]
  refine takeY 11 ⟨some 135, _, _, _, _, _⟩ (v := ?_) ?_ ?_
  rotate_left
  · intro W hSw
    try dsimp only at hSw
    go_simp
    all_goals (with_reducible rfl)
  try simp only [Act.put, List.setIfInBounds_toArray, List.set_cons_zero, List.set_cons_succ]
  refine takeY 12 ⟨some 136, _, _, _, _, _⟩ (v := ?_) ?_ ?_
  rotate_left
  · intro W hSw
    try dsimp only at hSw
    go_simp
    all_goals (with_reducible rfl)
  try simp only [Act.put, List.setIfInBounds_toArray, List.set_cons_zero, List.set_cons_succ]
  refine takeY 13 ⟨some 137, _, _, _, _, _⟩ (v := ?_) ?_ ?_
  rotate_left
  · intro W hSw
    try dsimp only at hSw
    go_simp
    all_goals (with_reducible rfl)
  try simp only [Act.put, List.setIfInBounds_toArray, List.set_cons_zero, List.set_cons_succ]
  refine takeY 14 ⟨some 138, _, _, _, _, _⟩ (v := ?_) ?_ ?_
  rotate_left
  · intro W hSw
    try dsimp only at hSw
    go_simp
    all_goals (with_reducible rfl)
  try simp only [Act.put, List.setIfInBounds_toArray, List.set_cons_zero, List.set_cons_succ]
  refine takeY 15 ⟨some 139, _, _, _, _, _⟩ (v := ?_) ?_ ?_
  rotate_left
  · intro W hSw
    try dsimp only at hSw
    go_simp
    all_goals (with_reducible rfl)
  try simp only [Act.put, List.setIfInBounds_toArray, List.set_cons_zero, List.set_cons_succ]
  refine takeY 16 ⟨some 140, _, _, _, _, _⟩ (v := ?_) ?_ ?_
  rotate_left
  · intro W hSw
    try dsimp only at hSw
    go_simp
    all_goals (with_reducible rfl)
  try simp only [Act.put, List.setIfInBounds_toArray, List.set_cons_zero, List.set_cons_succ]
  refine takeY 17 ⟨some 141, _, _, _, _, _⟩ (v := ?_) ?_ ?_
  rotate_left
  · intro W hSw
    try dsimp only at hSw
    go_simp
    all_goals (with_reducible rfl)
  try simp only [Act.put, List.setIfInBounds_toArray, List.set_cons_zero, List.set_cons_succ]
  refine takeY 18 ⟨some 142, _, _, _, _, _⟩ (v := ?_) ?_ ?_
  rotate_left
  · intro W hSw
    try dsimp only at hSw
    go_simp
    all_goals (with_reducible rfl)
  try simp only [Act.put, List.setIfInBounds_toArray, List.set_cons_zero, List.set_cons_succ]
  refine takeY 19 ⟨some 143, _, _, _, _, _⟩ (v := ?_) ?_ ?_
  rotate_left
  · intro W hSw
    try dsimp only at hSw
    go_simp
    all_goals (with_reducible rfl)
  try simp only [Act.put, List.setIfInBounds_toArray, List.set_cons_zero, List.set_cons_succ]
  refine takeY 20 ⟨some 144, _, _, _, _, _⟩ (v := ?_) ?_ ?_
  rotate_left
  · intro W hSw
    try dsimp only at hSw
    go_simp
    all_goals (with_reducible rfl)
  try simp only [Act.put, List.setIfInBounds_toArray, List.set_cons_zero, List.set_cons_succ]
  refine takeY 21 ⟨some 145, _, _, _, _, _⟩ (v := ?_) ?_ ?_
  rotate_left
  · intro W hSw
    try dsimp only at hSw
    go_simp
    all_goals (with_reducible rfl)
  try simp only [Act.put, List.setIfInBounds_toArray, List.set_cons_zero, List.set_cons_succ]
  refine takeY 22 ⟨some 146, _, _, _, _, _⟩ (v := ?_) ?_ ?_
  rotate_left
  · intro W hSw
    try dsimp only at hSw
    go_simp
    all_goals (with_reducible rfl)
  try simp only [Act.put, List.setIfInBounds_toArray, List.set_cons_zero, List.set_cons_succ]
  refine takeY 23 ⟨some 147, _, _, _, _, _⟩ (v := ?_) ?_ ?_
  rotate_left
  · intro W hSw
    try dsimp only at hSw
    go_simp
    all_goals (with_reducible rfl)
  try simp only [Act.put, List.setIfInBounds_toArray, List.set_cons_zero, List.set_cons_succ]
  refine takeY 24 ⟨some 148, _, _, _, _, _⟩ (v := ?_) ?_ ?_
  rotate_left
  · intro W hSw
    try dsimp only at hSw
    go_simp
    all_goals (with_reducible rfl)
  try simp only [Act.put, List.setIfInBounds_toArray, List.set_cons_zero, List.set_cons_succ]
  refine takeY 25 ⟨some 149, _, _, _, _, _⟩ (v := ?_) ?_ ?_
  rotate_left
  · intro W hSw
    try dsimp only at hSw
    go_simp
    all_goals (with_reducible rfl)
  try simp only [Act.put, List.setIfInBounds_toArray, List.set_cons_zero, List.set_cons_succ]
  refine takeY 26 ⟨some 150, _, _, _, _, _⟩ (v := ?_) ?_ ?_
  rotate_left
  · intro W hSw
    try dsimp only at hSw
    go_simp
    all_goals (with_reducible rfl)
  try simp only [Act.put, List.setIfInBounds_toArray, List.set_cons_zero, List.set_cons_succ]
  refine takeY 27 ⟨some 151, _, _, _, _, _⟩ (v := ?_) ?_ ?_
  rotate_left
  · intro W hSw
    try dsimp only at hSw
    go_simp
    all_goals (with_reducible rfl)
  try simp only [Act.put, List.setIfInBounds_toArray, List.set_cons_zero, List.set_cons_succ]
  refine takeY 28 ⟨some 152, _, _, _, _, _⟩ (v := ?_) ?_ ?_
  rotate_left
  · intro W hSw
    try dsimp only at hSw
    go_simp
    all_goals (with_reducible rfl)
  try simp only [Act.put, List.setIfInBounds_toArray, List.set_cons_zero, List.set_cons_succ]
  refine takeY 29 ⟨some 153, _, _, _, _, _⟩ (v := ?_) ?_ ?_
  rotate_left
  · intro W hSw
    try dsimp only at hSw
    go_simp
    all_goals (with_reducible rfl)
  try simp only [Act.put, List.setIfInBounds_toArray, List.set_cons_zero, List.set_cons_succ]
  refine takeY 30 ⟨some 154, _, _, _, _, _⟩ (v := ?_) ?_ ?_
  rotate_left
  · intro W hSw
    try dsimp only at hSw
    go_simp
    all_goals (with_reducible rfl)
  try simp only [Act.put, List.setIfInBounds_toArray, List.set_cons_zero, List.set_cons_succ]
  refine wpAnyH_ready (rs := [31]) (by kernel_rfl) (by simp) ?_
  refine AllReadyH.cons (o := { dst := some 155, op := Go.Op.call { callee := Go.Callee.value (Go.Operand.func 24), args := #[Go.Operand.tmp 154], argTypes := #[29] }, type := 4, pos := "ref.go:78", after := #[{ on := 30, ground := Go.Ground.data }, { on := 28, ground := Go.Ground.chain }, { on := 28, ground := Go.Ground.guard }], guard := some (28, true) }) rfl (fun K hK => ?_) AllReadyH.nil
  go_simp
  refine (HSZ.out _ HBX.out.below).mono ?_
  rintro e w1 ⟨rfl, rfl⟩
  refine hK.out _ _ (by exact hHeld) (fun hHeld2 => ?_)
  clear hK K hHeld
  have hHeld := hHeld2
  clear hHeld2
  try simp only [Act.put, List.setIfInBounds_toArray, List.set_cons_zero, List.set_cons_succ]
  refine takeY 32 ⟨some 156, _, _, _, _, _⟩ (v := ?_) ?_ ?_
  rotate_left
  · intro W hSw
    try dsimp only at hSw
    go_simp
    all_goals (with_reducible rfl)
  try simp only [Act.put, List.setIfInBounds_toArray, List.set_cons_zero, List.set_cons_succ]
  refine takeY 33 ⟨some 157, _, _, _, _, _⟩ (v := ?_) ?_ ?_
  rotate_left
  · intro W hSw
    try dsimp only at hSw
    go_simp
    all_goals (with_reducible rfl)
  try simp only [Act.put, List.setIfInBounds_toArray, List.set_cons_zero, List.set_cons_succ]
  refine takeY 34 ⟨some 158, _, _, _, _, _⟩ (v := ?_) ?_ ?_
  rotate_left
  · intro W hSw
    try dsimp only at hSw
    go_simp
    all_goals (with_reducible rfl)
  try simp only [Act.put, List.setIfInBounds_toArray, List.set_cons_zero, List.set_cons_succ]
  refine takeY 35 ⟨some 159, _, _, _, _, _⟩ (v := ?_) ?_ ?_
  rotate_left
  · intro W hSw
    try dsimp only at hSw
    go_simp
    all_goals (with_reducible rfl)
  try simp only [Act.put, List.setIfInBounds_toArray, List.set_cons_zero, List.set_cons_succ]
  refine takeY 36 ⟨some 160, _, _, _, _, _⟩ (v := ?_) ?_ ?_
  rotate_left
  · intro W hSw
    try dsimp only at hSw
    go_simp
    all_goals (with_reducible rfl)
  try simp only [Act.put, List.setIfInBounds_toArray, List.set_cons_zero, List.set_cons_succ]
  refine takeY 37 ⟨some 161, _, _, _, _, _⟩ (v := ?_) ?_ ?_
  rotate_left
  · intro W hSw
    try dsimp only at hSw
    go_simp
    all_goals (with_reducible rfl)
  try simp only [Act.put, List.setIfInBounds_toArray, List.set_cons_zero, List.set_cons_succ]
  refine wpAnyH_ready (rs := [38]) (by kernel_rfl) (by simp) ?_
  refine AllReadyH.cons (o := { dst := some 162, op := Go.Op.call { callee := Go.Callee.value (Go.Operand.func 18), args := #[Go.Operand.tmp 159, Go.Operand.tmp 161], argTypes := #[29, 29] }, type := 4, pos := "ref.go:78", after := #[{ on := 35, ground := Go.Ground.data }, { on := 37, ground := Go.Ground.data }, { on := 33, ground := Go.Ground.chain }, { on := 33, ground := Go.Ground.guard }], guard := some (33, true) }) rfl (fun K hK => ?_) AllReadyH.nil
  go_simp
  refine (HUN.out _ HBX.out).mono ?_
  rintro e w2 ⟨rfl, hb2⟩
  have HB2 := Lib.hid (HBX.out.step hb2)
  clear hb2
  refine hK.out _ _ (by exact HCS.out _ HB2.out) (fun hHeld2 => ?_)
  clear hK K hHeld
  have hHeld := hHeld2
  clear hHeld2
  try simp only [Act.put, List.setIfInBounds_toArray, List.set_cons_zero, List.set_cons_succ]
  refine takeY 39 ⟨some 163, _, _, _, _, _⟩ (v := ?_) ?_ ?_
  rotate_left
  · intro W hSw
    try dsimp only at hSw
    go_simp
    all_goals (with_reducible rfl)
  try simp only [Act.put, List.setIfInBounds_toArray, List.set_cons_zero, List.set_cons_succ]
  refine takeY 40 ⟨some 164, _, _, _, _, _⟩ (v := ?_) ?_ ?_
  rotate_left
  · intro W hSw
    try dsimp only at hSw
    go_simp
    all_goals (with_reducible rfl)
  try simp only [Act.put, List.setIfInBounds_toArray, List.set_cons_zero, List.set_cons_succ]
  refine takeN 41 ⟨some 165, _, _, _, _, _⟩ ?_
  try simp only [Act.put, List.setIfInBounds_toArray, List.set_cons_zero, List.set_cons_succ]
  refine takeN 42 ⟨some 166, _, _, _, _, _⟩ ?_
  try simp only [Act.put, List.setIfInBounds_toArray, List.set_cons_zero, List.set_cons_succ]
  refine takeY 43 ⟨some 167, _, _, _, _, _⟩ (v := ?_) ?_ ?_
  rotate_left
  · intro W hSw
    try dsimp only at hSw
    go_simp
    all_goals (with_reducible rfl)
  try simp only [Act.put, List.setIfInBounds_toArray, List.set_cons_zero, List.set_cons_succ]
  refine takeY 44 ⟨some 2, _, _, _, _, _⟩ (v := ?_) ?_ ?_
  rotate_left
  · intro W hSw
    try dsimp only at hSw
    go_simp
    all_goals (with_reducible rfl)
  try simp only [Act.put, List.setIfInBounds_toArray, List.set_cons_zero, List.set_cons_succ]
  refine wpAnyH_done (by kernel_rfl) ?_ _
  go_wp2
  go_ret
  exact ⟨rfl, HB2.out.below⟩

set_option maxRecDepth 20000 in
set_option maxHeartbeats 8000000 in
theorem fno_2g (w : World) (x : FV) (hx : FAt w w.heap.size x) (hi : FIn x) (hh : headB x.name x.h = true) (k1 : x.h.knd = 2) (hty : typedB x.h.typ = true) (hset : x.sp.length = 0) (httl : x.h.ttl ≤ 10800) (hz : soundN x.zone = true) (hu : underN x.name x.zone = true) (hd : soundD 6 x.soa = false) : Calls Tryz.prog 20 #[x.val] w (Gave w (.bool false)) := by
  have hsz1 := soundN_sz (headB_parts hh).1
  have hsz2 := soundN_sz hz
  have HUN := Lib.hid (fun W (h : FBoxes w x W) => ref_under_any x.A x.zA x.name.length x.zone.length x.c x.zc w.heap.size x.name x.zone W rfl rfl (hx.n.below h.below) (hx.z.below h.below) (Nat.le_trans (Nat.le_add_right _ 2) h.size) hsz1 hsz2 hx.ln)
  rw [hu] at HUN
  clear hsz1 hsz2 hu
  have HDA := Lib.hid (fun W (h : FBoxes w x W) => refData_any 6 x.d x.soa W ((hx.d.below h.below).mono h.below.size) hi.d.ref)
  rw [hd] at HDA
  clear hd
  have HSZ := Lib.hid (fun W' (hb : Below w.heap.size w W') => ref_sound_wide x.zA x.zc w.heap.size x.zone W' (hx.z.below hb) hi.z.1 hi.z.2)
  rw [hz] at HSZ
  clear hz
  obtain ⟨W, hW⟩ : ∃ W, W = w.alloc (.cells #[.slice x.A x.name.length x.c, .int .i64 x.h.typ, .int .i64 x.h.knd, .int .i64 x.h.rank, .int .i64 x.h.got, .int .i64 x.h.ttl, .slice x.sA x.sp.length x.sc, .slice x.zA x.zone.length x.zc, .slice x.d.Ab x.soa.bytes.length x.d.cb, .slice x.d.Ah x.soa.host.length x.d.ch, .slice x.d.Am x.soa.mail.length x.d.cm, .slice x.d.An x.soa.nums.length x.d.cn, .slice x.d.At x.soa.texts.length x.d.ct] 36) := ⟨_, rfl⟩
  have hB : Below w.heap.size w W := by rw [hW]; exact (Below.refl _ _).alloc (Nat.le_refl _) _
  have HB := Lib.hid hB
  have HN := Lib.hid (fun W' (hb : Below w.heap.size w W') => ref_sound_wide x.A x.c w.heap.size x.name W' (hx.n.below hb) hi.n.1 hi.n.2)
  have HT := Lib.hid (fun W' => time_any x.h.got W')
  have HX := Lib.hid hx
  have HI := Lib.hid hi
  have HTY := Lib.hid (fun W' => typed_any x.h.typ W')
  rw [hty] at HTY
  have b1 : (x.h.knd == 1) = false := by rw [k1]; rfl
  have b2 : (x.h.knd == 2) = true := by rw [k1]; rfl
  have b3 : (x.h.knd == 3) = false := by rw [k1]; rfl
  have HHP := Lib.hid (headB_parts hh)
  have HK := Lib.hid k1
  clear hx hi hh hB hty k1
  subst hW
  obtain ⟨hn, h1, h2, ht, h3, h4⟩ := HHP.out
  rw [hn] at HN
  rw [ht] at HT
  have d1 : decide (x.h.rank < 1) = false := decide_eq_false (by omega)
  have d2 : decide (4 < x.h.rank) = false := decide_eq_false (by omega)
  have d3 : decide (x.h.ttl < 0) = false := decide_eq_false (by omega)
  have d4 : decide (604800 < x.h.ttl) = false := decide_eq_false (by omega)
  clear hn ht h1 h2 h3 h4 HHP
  have b6 : ((x.sp.length : Int) == 0) = true := by rw [hset]; rfl
  have HL := Lib.hid hset
  clear hset
  have e5 : decide (x.h.ttl ≤ 10800) = true := decide_eq_true httl
  clear httl
  have HCS := Lib.hid (show ∀ W, FBoxes w x W → (W.cell? ⟨w.heap.size, 0, none⟩ = some (.slice x.A x.name.length x.c) ∧ W.cell? ⟨w.heap.size, 1, none⟩ = some (.int .i64 x.h.typ) ∧ W.cell? ⟨w.heap.size, 2, none⟩ = some (.int .i64 x.h.knd) ∧ W.cell? ⟨w.heap.size, 5, none⟩ = some (.int .i64 x.h.ttl) ∧ W.cell? ⟨w.heap.size, 6, none⟩ = some (.slice x.sA x.sp.length x.sc) ∧ W.cell? ⟨w.heap.size, 7, none⟩ = some (.slice x.zA x.zone.length x.zc)) ∧ (W.cell? ⟨w.heap.size + 1, 0, none⟩ = some (.slice x.d.Ab x.soa.bytes.length x.d.cb) ∧ W.cell? ⟨w.heap.size + 1, 1, none⟩ = some (.slice x.d.Ah x.soa.host.length x.d.ch) ∧ W.cell? ⟨w.heap.size + 1, 2, none⟩ = some (.slice x.d.Am x.soa.mail.length x.d.cm) ∧ W.cell? ⟨w.heap.size + 1, 3, none⟩ = some (.slice x.d.An x.soa.nums.length x.d.cn) ∧ W.cell? ⟨w.heap.size + 1, 4, none⟩ = some (.slice x.d.At x.soa.texts.length x.d.ct)) from fun W h => ⟨⟨h.f.cell 0, h.f.cell 1, h.f.cell 2, h.f.cell 5, h.f.cell 6, h.f.cell 7⟩, ⟨h.d.cell 0, h.d.cell 1, h.d.cell 2, h.d.cell 3, h.d.cell 4⟩⟩)
  have HBX := Lib.hid (FBoxes.made w x)
  go_enter Tryz.func20, Tryz.ntmps20
  go_wp2_with (first
    | (go_at_call 24; refine (HN.out _ HB.out).mono ?_; rintro e w1 ⟨rfl, rfl⟩)
    | (go_at_call 32; refine (HT.out _).mono ?_; rintro e w1 ⟨rfl, rfl⟩))
  refine wp_region_held_drew (S := fun W => (W.cell? ⟨w.heap.size, 0, none⟩ = some (.slice x.A x.name.length x.c) ∧ W.cell? ⟨w.heap.size, 1, none⟩ = some (.int .i64 x.h.typ) ∧ W.cell? ⟨w.heap.size, 2, none⟩ = some (.int .i64 x.h.knd) ∧ W.cell? ⟨w.heap.size, 5, none⟩ = some (.int .i64 x.h.ttl) ∧ W.cell? ⟨w.heap.size, 6, none⟩ = some (.slice x.sA x.sp.length x.sc) ∧ W.cell? ⟨w.heap.size, 7, none⟩ = some (.slice x.zA x.zone.length x.zc)) ∧ (W.cell? ⟨w.heap.size + 1, 0, none⟩ = some (.slice x.d.Ab x.soa.bytes.length x.d.cb) ∧ W.cell? ⟨w.heap.size + 1, 1, none⟩ = some (.slice x.d.Ah x.soa.host.length x.d.ch) ∧ W.cell? ⟨w.heap.size + 1, 2, none⟩ = some (.slice x.d.Am x.soa.mail.length x.d.cm) ∧ W.cell? ⟨w.heap.size + 1, 3, none⟩ = some (.slice x.d.An x.soa.nums.length x.d.cn) ∧ W.cell? ⟨w.heap.size + 1, 4, none⟩ = some (.slice x.d.At x.soa.texts.length x.d.ct))) (by kernel_rfl) (by exact HCS.out _ HBX.out) (fun hHeld => ?_)
  refine takeY 0 ⟨some 124, _, _, _, _, _⟩ (v := ?_) ?_ ?_
  rotate_left
  · intro W hSw
    try dsimp only at hSw
    go_simp
    all_goals (with_reducible rfl)
  try simp only [Act.put, List.setIfInBounds_toArray, List.set_cons_zero, List.set_cons_succ]
  refine takeY 1 ⟨some 125, _, _, _, _, _⟩ (v := ?_) ?_ ?_
  rotate_left
  · intro W hSw
    try dsimp only at hSw
    go_simp
    all_goals (with_reducible rfl)
  try simp only [Act.put, List.setIfInBounds_toArray, List.set_cons_zero, List.set_cons_succ]
  refine takeY 2 ⟨some 126, _, _, _, _, _⟩ (v := ?_) ?_ ?_
  rotate_left
  · intro W hSw
    try dsimp only at hSw
    go_simp
    all_goals (with_reducible rfl)
  try simp only [Act.put, List.setIfInBounds_toArray, List.set_cons_zero, List.set_cons_succ]
  refine takeY 3 ⟨some 127, _, _, _, _, _⟩ (v := ?_) ?_ ?_
  rotate_left
  · intro W hSw
    try dsimp only at hSw
    go_simp
    all_goals (with_reducible rfl)
  try simp only [Act.put, List.setIfInBounds_toArray, List.set_cons_zero, List.set_cons_succ]
  refine takeY 4 ⟨some 128, _, _, _, _, _⟩ (v := ?_) ?_ ?_
  rotate_left
  · intro W hSw
    try dsimp only at hSw
    go_simp
    all_goals (with_reducible rfl)
  try simp only [Act.put, List.setIfInBounds_toArray, List.set_cons_zero, List.set_cons_succ]
  refine wpAnyH_ready (rs := [5]) (by kernel_rfl) (by simp) ?_
  refine AllReadyH.cons (o := { dst := some 129, op := Go.Op.call { callee := Go.Callee.value (Go.Operand.func 41), args := #[Go.Operand.tmp 128], argTypes := #[3] }, type := 4, pos := "ref.go:78", after := #[{ on := 4, ground := Go.Ground.data }], guard := none }) rfl (fun K hK => ?_) AllReadyH.nil
  go_simp
  refine (HTY.out _).mono ?_
  rintro e w1 ⟨rfl, rfl⟩
  refine hK.out _ _ (by exact hHeld) (fun hHeld2 => ?_)
  clear hK K hHeld
  have hHeld := hHeld2
  clear hHeld2
  try simp only [Act.put, List.setIfInBounds_toArray, List.set_cons_zero, List.set_cons_succ]
  refine takeY 6 ⟨some 130, _, _, _, _, _⟩ (v := ?_) ?_ ?_
  rotate_left
  · intro W hSw
    try dsimp only at hSw
    go_simp
    all_goals (with_reducible rfl)
  try simp only [Act.put, List.setIfInBounds_toArray, List.set_cons_zero, List.set_cons_succ]
  refine takeY 7 ⟨some 131, _, _, _, _, _⟩ (v := ?_) ?_ ?_
  rotate_left
  · intro W hSw
    try dsimp only at hSw
    go_simp
    all_goals (with_reducible rfl)
  try simp only [Act.put, List.setIfInBounds_toArray, List.set_cons_zero, List.set_cons_succ]
  refine takeY 8 ⟨some 132, _, _, _, _, _⟩ (v := ?_) ?_ ?_
  rotate_left
  · intro W hSw
    try dsimp only at hSw
    go_simp
    all_goals (with_reducible rfl)
  try simp only [Act.put, List.setIfInBounds_toArray, List.set_cons_zero, List.set_cons_succ]
  refine takeY 9 ⟨some 133, _, _, _, _, _⟩ (v := ?_) ?_ ?_
  rotate_left
  · intro W hSw
    try dsimp only at hSw
    go_simp
    all_goals (with_reducible rfl)
  try simp only [Act.put, List.setIfInBounds_toArray, List.set_cons_zero, List.set_cons_succ]
  refine takeY 10 ⟨some 134, _, _, _, _, _⟩ (v := ?_) ?_ ?_
  rotate_left
  · intro W hSw
    try dsimp only at hSw
    go_simp
    all_goals (with_reducible rfl)
  try simp only [Act.put, List.setIfInBounds_toArray, List.set_cons_zero, List.set_cons_succ]
  refine takeY 11 ⟨some 135, _, _, _, _, _⟩ (v := ?_) ?_ ?_
  rotate_left
  · intro W hSw
    try dsimp only at hSw
    go_simp
    all_goals (with_reducible rfl)
  try simp only [Act.put, List.setIfInBounds_toArray, List.set_cons_zero, List.set_cons_succ]
  refine takeN 12 ⟨some 136, _, _, _, _, _⟩ ?_
  try simp only [Act.put, List.setIfInBounds_toArray, List.set_cons_zero, List.set_cons_succ]
  refine takeN 13 ⟨some 137, _, _, _, _, _⟩ ?_
  try simp only [Act.put, List.setIfInBounds_toArray, List.set_cons_zero, List.set_cons_succ]
  refine takeN 14 ⟨some 138, _, _, _, _, _⟩ ?_
  try simp only [Act.put, List.setIfInBounds_toArray, List.set_cons_zero, List.set_cons_succ]
  refine takeY 15 ⟨some 139, _, _, _, _, _⟩ (v := ?_) ?_ ?_
  rotate_left
  · intro W hSw
    try dsimp only at hSw
    go_simp
    all_goals (with_reducible rfl)
  try simp only [Act.put, List.setIfInBounds_toArray, List.set_cons_zero, List.set_cons_succ]
  refine takeY 16 ⟨some 140, _, _, _, _, _⟩ (v := ?_) ?_ ?_
  rotate_left
  · intro W hSw
    try dsimp only at hSw
    go_simp
    all_goals (with_reducible rfl)
  try simp only [Act.put, List.setIfInBounds_toArray, List.set_cons_zero, List.set_cons_succ]
  refine takeY 17 ⟨some 141, _, _, _, _, _⟩ (v := ?_) ?_ ?_
  rotate_left
  · intro W hSw
    try dsimp only at hSw
    go_simp
    all_goals (with_reducible rfl)
  try simp only [Act.put, List.setIfInBounds_toArray, List.set_cons_zero, List.set_cons_succ]
  refine takeY 18 ⟨some 142, _, _, _, _, _⟩ (v := ?_) ?_ ?_
  rotate_left
  · intro W hSw
    try dsimp only at hSw
    go_simp
    all_goals (with_reducible rfl)
  try simp only [Act.put, List.setIfInBounds_toArray, List.set_cons_zero, List.set_cons_succ]
  refine takeY 19 ⟨some 143, _, _, _, _, _⟩ (v := ?_) ?_ ?_
  rotate_left
  · intro W hSw
    try dsimp only at hSw
    go_simp
    all_goals (with_reducible rfl)
  try simp only [Act.put, List.setIfInBounds_toArray, List.set_cons_zero, List.set_cons_succ]
  refine takeY 20 ⟨some 144, _, _, _, _, _⟩ (v := ?_) ?_ ?_
  rotate_left
  · intro W hSw
    try dsimp only at hSw
    go_simp
    all_goals (with_reducible rfl)
  try simp only [Act.put, List.setIfInBounds_toArray, List.set_cons_zero, List.set_cons_succ]
  refine takeY 21 ⟨some 145, _, _, _, _, _⟩ (v := ?_) ?_ ?_
  rotate_left
  · intro W hSw
    try dsimp only at hSw
    go_simp
    all_goals (with_reducible rfl)
  try simp only [Act.put, List.setIfInBounds_toArray, List.set_cons_zero, List.set_cons_succ]
  refine takeY 22 ⟨some 146, _, _, _, _, _⟩ (v := ?_) ?_ ?_
  rotate_left
  · intro W hSw
    try dsimp only at hSw
    go_simp
    all_goals (with_reducible rfl)
  try simp only [Act.put, List.setIfInBounds_toArray, List.set_cons_zero, List.set_cons_succ]
  refine takeY 23 ⟨some 147, _, _, _, _, _⟩ (v := ?_) ?_ ?_
  rotate_left
  · intro W hSw
    try dsimp only at hSw
    go_simp
    all_goals (with_reducible rfl)
  try simp only [Act.put, List.setIfInBounds_toArray, List.set_cons_zero, List.set_cons_succ]
  refine takeY 24 ⟨some 148, _, _, _, _, _⟩ (v := ?_) ?_ ?_
  rotate_left
  · intro W hSw
    try dsimp only at hSw
    go_simp
    all_goals (with_reducible rfl)
  try simp only [Act.put, List.setIfInBounds_toArray, List.set_cons_zero, List.set_cons_succ]
  refine takeY 25 ⟨some 149, _, _, _, _, _⟩ (v := ?_) ?_ ?_
  rotate_left
  · intro W hSw
    try dsimp only at hSw
    go_simp
    all_goals (with_reducible rfl)
  try simp only [Act.put, List.setIfInBounds_toArray, List.set_cons_zero, List.set_cons_succ]
  refine takeY 26 ⟨some 150, _, _, _, _, _⟩ (v := ?_) ?_ ?_
  rotate_left
  · intro W hSw
    try dsimp only at hSw
    go_simp
    all_goals (with_reducible rfl)
  try simp only [Act.put, List.setIfInBounds_toArray, List.set_cons_zero, List.set_cons_succ]
  refine takeY 27 ⟨some 151, _, _, _, _, _⟩ (v := ?_) ?_ ?_
  rotate_left
  · intro W hSw
    try dsimp only at hSw
    go_simp
    all_goals (with_reducible rfl)
  try simp only [Act.put, List.setIfInBounds_toArray, List.set_cons_zero, List.set_cons_succ]
  refine takeY 28 ⟨some 152, _, _, _, _, _⟩ (v := ?_) ?_ ?_
  rotate_left
  · intro W hSw
    try dsimp only at hSw
    go_simp
    all_goals (with_reducible rfl)
  try simp only [Act.put, List.setIfInBounds_toArray, List.set_cons_zero, List.set_cons_succ]
  refine takeY 29 ⟨some 153, _, _, _, _, _⟩ (v := ?_) ?_ ?_
  rotate_left
  · intro W hSw
    try dsimp only at hSw
    go_simp
    all_goals (with_reducible rfl)
  try simp only [Act.put, List.setIfInBounds_toArray, List.set_cons_zero, List.set_cons_succ]
  refine takeY 30 ⟨some 154, _, _, _, _, _⟩ (v := ?_) ?_ ?_
  rotate_left
  · intro W hSw
    try dsimp only at hSw
    go_simp
    all_goals (with_reducible rfl)
  try simp only [Act.put, List.setIfInBounds_toArray, List.set_cons_zero, List.set_cons_succ]
  refine wpAnyH_ready (rs := [31]) (by kernel_rfl) (by simp) ?_
  refine AllReadyH.cons (o := { dst := some 155, op := Go.Op.call { callee := Go.Callee.value (Go.Operand.func 24), args := #[Go.Operand.tmp 154], argTypes := #[29] }, type := 4, pos := "ref.go:78", after := #[{ on := 30, ground := Go.Ground.data }, { on := 28, ground := Go.Ground.chain }, { on := 28, ground := Go.Ground.guard }], guard := some (28, true) }) rfl (fun K hK => ?_) AllReadyH.nil
  go_simp
  refine (HSZ.out _ HBX.out.below).mono ?_
  rintro e w1 ⟨rfl, rfl⟩
  refine hK.out _ _ (by exact hHeld) (fun hHeld2 => ?_)
  clear hK K hHeld
  have hHeld := hHeld2
  clear hHeld2
  try simp only [Act.put, List.setIfInBounds_toArray, List.set_cons_zero, List.set_cons_succ]
  refine takeY 32 ⟨some 156, _, _, _, _, _⟩ (v := ?_) ?_ ?_
  rotate_left
  · intro W hSw
    try dsimp only at hSw
    go_simp
    all_goals (with_reducible rfl)
  try simp only [Act.put, List.setIfInBounds_toArray, List.set_cons_zero, List.set_cons_succ]
  refine takeY 33 ⟨some 157, _, _, _, _, _⟩ (v := ?_) ?_ ?_
  rotate_left
  · intro W hSw
    try dsimp only at hSw
    go_simp
    all_goals (with_reducible rfl)
  try simp only [Act.put, List.setIfInBounds_toArray, List.set_cons_zero, List.set_cons_succ]
  refine takeY 34 ⟨some 158, _, _, _, _, _⟩ (v := ?_) ?_ ?_
  rotate_left
  · intro W hSw
    try dsimp only at hSw
    go_simp
    all_goals (with_reducible rfl)
  try simp only [Act.put, List.setIfInBounds_toArray, List.set_cons_zero, List.set_cons_succ]
  refine takeY 35 ⟨some 159, _, _, _, _, _⟩ (v := ?_) ?_ ?_
  rotate_left
  · intro W hSw
    try dsimp only at hSw
    go_simp
    all_goals (with_reducible rfl)
  try simp only [Act.put, List.setIfInBounds_toArray, List.set_cons_zero, List.set_cons_succ]
  refine takeY 36 ⟨some 160, _, _, _, _, _⟩ (v := ?_) ?_ ?_
  rotate_left
  · intro W hSw
    try dsimp only at hSw
    go_simp
    all_goals (with_reducible rfl)
  try simp only [Act.put, List.setIfInBounds_toArray, List.set_cons_zero, List.set_cons_succ]
  refine takeY 37 ⟨some 161, _, _, _, _, _⟩ (v := ?_) ?_ ?_
  rotate_left
  · intro W hSw
    try dsimp only at hSw
    go_simp
    all_goals (with_reducible rfl)
  try simp only [Act.put, List.setIfInBounds_toArray, List.set_cons_zero, List.set_cons_succ]
  refine wpAnyH_ready (rs := [38]) (by kernel_rfl) (by simp) ?_
  refine AllReadyH.cons (o := { dst := some 162, op := Go.Op.call { callee := Go.Callee.value (Go.Operand.func 18), args := #[Go.Operand.tmp 159, Go.Operand.tmp 161], argTypes := #[29, 29] }, type := 4, pos := "ref.go:78", after := #[{ on := 35, ground := Go.Ground.data }, { on := 37, ground := Go.Ground.data }, { on := 33, ground := Go.Ground.chain }, { on := 33, ground := Go.Ground.guard }], guard := some (33, true) }) rfl (fun K hK => ?_) AllReadyH.nil
  go_simp
  refine (HUN.out _ HBX.out).mono ?_
  rintro e w2 ⟨rfl, hb2⟩
  have HB2 := Lib.hid (HBX.out.step hb2)
  clear hb2
  refine hK.out _ _ (by exact HCS.out _ HB2.out) (fun hHeld2 => ?_)
  clear hK K hHeld
  have hHeld := hHeld2
  clear hHeld2
  try simp only [Act.put, List.setIfInBounds_toArray, List.set_cons_zero, List.set_cons_succ]
  refine takeY 39 ⟨some 163, _, _, _, _, _⟩ (v := ?_) ?_ ?_
  rotate_left
  · intro W hSw
    try dsimp only at hSw
    go_simp
    all_goals (with_reducible rfl)
  try simp only [Act.put, List.setIfInBounds_toArray, List.set_cons_zero, List.set_cons_succ]
  refine takeY 40 ⟨some 164, _, _, _, _, _⟩ (v := ?_) ?_ ?_
  rotate_left
  · intro W hSw
    try dsimp only at hSw
    go_simp
    all_goals (with_reducible rfl)
  try simp only [Act.put, List.setIfInBounds_toArray, List.set_cons_zero, List.set_cons_succ]
  refine takeY 41 ⟨some 165, _, _, _, _, _⟩ (v := ?_) ?_ ?_
  rotate_left
  · intro W hSw
    try dsimp only at hSw
    go_simp
    all_goals (with_reducible rfl)
  try simp only [Act.put, List.setIfInBounds_toArray, List.set_cons_zero, List.set_cons_succ]
  refine wpAnyH_ready (rs := [42]) (by kernel_rfl) (by simp) ?_
  refine AllReadyH.cons (o := { dst := some 166, op := Go.Op.call { callee := Go.Callee.value (Go.Operand.func 42), args := #[Go.Operand.const (Go.Value.int Go.IntKind.i64 6), Go.Operand.tmp 165], argTypes := #[3, 34] }, type := 4, pos := "ref.go:78", after := #[{ on := 41, ground := Go.Ground.data }, { on := 40, ground := Go.Ground.chain }, { on := 40, ground := Go.Ground.guard }], guard := some (40, true) }) rfl (fun K hK => ?_) AllReadyH.nil
  go_simp
  refine (HDA.out _ HB2.out).mono ?_
  rintro e w3 ⟨rfl, hb3⟩
  have HB3 := Lib.hid (HB2.out.step hb3)
  clear hb3
  refine hK.out _ _ (by exact HCS.out _ HB3.out) (fun hHeld2 => ?_)
  clear hK K hHeld
  have hHeld := hHeld2
  clear hHeld2
  try simp only [Act.put, List.setIfInBounds_toArray, List.set_cons_zero, List.set_cons_succ]
  refine takeY 43 ⟨some 167, _, _, _, _, _⟩ (v := ?_) ?_ ?_
  rotate_left
  · intro W hSw
    try dsimp only at hSw
    go_simp
    all_goals (with_reducible rfl)
  try simp only [Act.put, List.setIfInBounds_toArray, List.set_cons_zero, List.set_cons_succ]
  refine takeY 44 ⟨some 2, _, _, _, _, _⟩ (v := ?_) ?_ ?_
  rotate_left
  · intro W hSw
    try dsimp only at hSw
    go_simp
    all_goals (with_reducible rfl)
  try simp only [Act.put, List.setIfInBounds_toArray, List.set_cons_zero, List.set_cons_succ]
  refine wpAnyH_done (by kernel_rfl) ?_ _
  go_wp2
  go_ret
  exact ⟨rfl, HB3.out.below⟩

set_option maxRecDepth 20000 in
set_option maxHeartbeats 8000000 in
theorem fno_3g (w : World) (x : FV) (hx : FAt w w.heap.size x) (hi : FIn x) (hh : headB x.name x.h = true) (k1 : x.h.knd = 3) (hty : typedB x.h.typ = false) (ht0 : x.h.typ = 0) (hset : x.sp.length = 0) (httl : x.h.ttl ≤ 10800) (hz : soundN x.zone = true) (hu : underN x.name x.zone = true) (hd : soundD 6 x.soa = false) : Calls Tryz.prog 20 #[x.val] w (Gave w (.bool false)) := by
  have hsz1 := soundN_sz (headB_parts hh).1
  have hsz2 := soundN_sz hz
  have HUN := Lib.hid (fun W (h : FBoxes w x W) => ref_under_any x.A x.zA x.name.length x.zone.length x.c x.zc w.heap.size x.name x.zone W rfl rfl (hx.n.below h.below) (hx.z.below h.below) (Nat.le_trans (Nat.le_add_right _ 2) h.size) hsz1 hsz2 hx.ln)
  rw [hu] at HUN
  clear hsz1 hsz2 hu
  have HDA := Lib.hid (fun W (h : FBoxes w x W) => refData_any 6 x.d x.soa W ((hx.d.below h.below).mono h.below.size) hi.d.ref)
  rw [hd] at HDA
  clear hd
  have HSZ := Lib.hid (fun W' (hb : Below w.heap.size w W') => ref_sound_wide x.zA x.zc w.heap.size x.zone W' (hx.z.below hb) hi.z.1 hi.z.2)
  rw [hz] at HSZ
  clear hz
  obtain ⟨W, hW⟩ : ∃ W, W = w.alloc (.cells #[.slice x.A x.name.length x.c, .int .i64 x.h.typ, .int .i64 x.h.knd, .int .i64 x.h.rank, .int .i64 x.h.got, .int .i64 x.h.ttl, .slice x.sA x.sp.length x.sc, .slice x.zA x.zone.length x.zc, .slice x.d.Ab x.soa.bytes.length x.d.cb, .slice x.d.Ah x.soa.host.length x.d.ch, .slice x.d.Am x.soa.mail.length x.d.cm, .slice x.d.An x.soa.nums.length x.d.cn, .slice x.d.At x.soa.texts.length x.d.ct] 36) := ⟨_, rfl⟩
  have hB : Below w.heap.size w W := by rw [hW]; exact (Below.refl _ _).alloc (Nat.le_refl _) _
  have HB := Lib.hid hB
  have HN := Lib.hid (fun W' (hb : Below w.heap.size w W') => ref_sound_wide x.A x.c w.heap.size x.name W' (hx.n.below hb) hi.n.1 hi.n.2)
  have HT := Lib.hid (fun W' => time_any x.h.got W')
  have HX := Lib.hid hx
  have HI := Lib.hid hi
  have HTY := Lib.hid (fun W' => typed_any x.h.typ W')
  rw [hty] at HTY
  have b1 : (x.h.knd == 1) = false := by rw [k1]; rfl
  have b2 : (x.h.knd == 2) = false := by rw [k1]; rfl
  have b3 : (x.h.knd == 3) = true := by rw [k1]; rfl
  have HHP := Lib.hid (headB_parts hh)
  have HK := Lib.hid k1
  clear hx hi hh hB hty k1
  subst hW
  obtain ⟨hn, h1, h2, ht, h3, h4⟩ := HHP.out
  rw [hn] at HN
  rw [ht] at HT
  have d1 : decide (x.h.rank < 1) = false := decide_eq_false (by omega)
  have d2 : decide (4 < x.h.rank) = false := decide_eq_false (by omega)
  have d3 : decide (x.h.ttl < 0) = false := decide_eq_false (by omega)
  have d4 : decide (604800 < x.h.ttl) = false := decide_eq_false (by omega)
  clear hn ht h1 h2 h3 h4 HHP
  have b0 : (x.h.typ == 0) = true := by rw [ht0]; rfl
  clear ht0
  have b6 : ((x.sp.length : Int) == 0) = true := by rw [hset]; rfl
  have HL := Lib.hid hset
  clear hset
  have e5 : decide (x.h.ttl ≤ 10800) = true := decide_eq_true httl
  clear httl
  have HCS := Lib.hid (show ∀ W, FBoxes w x W → (W.cell? ⟨w.heap.size, 0, none⟩ = some (.slice x.A x.name.length x.c) ∧ W.cell? ⟨w.heap.size, 1, none⟩ = some (.int .i64 x.h.typ) ∧ W.cell? ⟨w.heap.size, 2, none⟩ = some (.int .i64 x.h.knd) ∧ W.cell? ⟨w.heap.size, 5, none⟩ = some (.int .i64 x.h.ttl) ∧ W.cell? ⟨w.heap.size, 6, none⟩ = some (.slice x.sA x.sp.length x.sc) ∧ W.cell? ⟨w.heap.size, 7, none⟩ = some (.slice x.zA x.zone.length x.zc)) ∧ (W.cell? ⟨w.heap.size + 1, 0, none⟩ = some (.slice x.d.Ab x.soa.bytes.length x.d.cb) ∧ W.cell? ⟨w.heap.size + 1, 1, none⟩ = some (.slice x.d.Ah x.soa.host.length x.d.ch) ∧ W.cell? ⟨w.heap.size + 1, 2, none⟩ = some (.slice x.d.Am x.soa.mail.length x.d.cm) ∧ W.cell? ⟨w.heap.size + 1, 3, none⟩ = some (.slice x.d.An x.soa.nums.length x.d.cn) ∧ W.cell? ⟨w.heap.size + 1, 4, none⟩ = some (.slice x.d.At x.soa.texts.length x.d.ct)) from fun W h => ⟨⟨h.f.cell 0, h.f.cell 1, h.f.cell 2, h.f.cell 5, h.f.cell 6, h.f.cell 7⟩, ⟨h.d.cell 0, h.d.cell 1, h.d.cell 2, h.d.cell 3, h.d.cell 4⟩⟩)
  have HBX := Lib.hid (FBoxes.made w x)
  go_enter Tryz.func20, Tryz.ntmps20
  go_wp2_with (first
    | (go_at_call 24; refine (HN.out _ HB.out).mono ?_; rintro e w1 ⟨rfl, rfl⟩)
    | (go_at_call 32; refine (HT.out _).mono ?_; rintro e w1 ⟨rfl, rfl⟩))
  refine wp_region_held_drew (S := fun W => (W.cell? ⟨w.heap.size, 0, none⟩ = some (.slice x.A x.name.length x.c) ∧ W.cell? ⟨w.heap.size, 1, none⟩ = some (.int .i64 x.h.typ) ∧ W.cell? ⟨w.heap.size, 2, none⟩ = some (.int .i64 x.h.knd) ∧ W.cell? ⟨w.heap.size, 5, none⟩ = some (.int .i64 x.h.ttl) ∧ W.cell? ⟨w.heap.size, 6, none⟩ = some (.slice x.sA x.sp.length x.sc) ∧ W.cell? ⟨w.heap.size, 7, none⟩ = some (.slice x.zA x.zone.length x.zc)) ∧ (W.cell? ⟨w.heap.size + 1, 0, none⟩ = some (.slice x.d.Ab x.soa.bytes.length x.d.cb) ∧ W.cell? ⟨w.heap.size + 1, 1, none⟩ = some (.slice x.d.Ah x.soa.host.length x.d.ch) ∧ W.cell? ⟨w.heap.size + 1, 2, none⟩ = some (.slice x.d.Am x.soa.mail.length x.d.cm) ∧ W.cell? ⟨w.heap.size + 1, 3, none⟩ = some (.slice x.d.An x.soa.nums.length x.d.cn) ∧ W.cell? ⟨w.heap.size + 1, 4, none⟩ = some (.slice x.d.At x.soa.texts.length x.d.ct))) (by kernel_rfl) (by exact HCS.out _ HBX.out) (fun hHeld => ?_)
  refine takeY 0 ⟨some 124, _, _, _, _, _⟩ (v := ?_) ?_ ?_
  rotate_left
  · intro W hSw
    try dsimp only at hSw
    go_simp
    all_goals (with_reducible rfl)
  try simp only [Act.put, List.setIfInBounds_toArray, List.set_cons_zero, List.set_cons_succ]
  refine takeY 1 ⟨some 125, _, _, _, _, _⟩ (v := ?_) ?_ ?_
  rotate_left
  · intro W hSw
    try dsimp only at hSw
    go_simp
    all_goals (with_reducible rfl)
  try simp only [Act.put, List.setIfInBounds_toArray, List.set_cons_zero, List.set_cons_succ]
  refine takeY 2 ⟨some 126, _, _, _, _, _⟩ (v := ?_) ?_ ?_
  rotate_left
  · intro W hSw
    try dsimp only at hSw
    go_simp
    all_goals (with_reducible rfl)
  try simp only [Act.put, List.setIfInBounds_toArray, List.set_cons_zero, List.set_cons_succ]
  refine takeY 3 ⟨some 127, _, _, _, _, _⟩ (v := ?_) ?_ ?_
  rotate_left
  · intro W hSw
    try dsimp only at hSw
    go_simp
    all_goals (with_reducible rfl)
  try simp only [Act.put, List.setIfInBounds_toArray, List.set_cons_zero, List.set_cons_succ]
  refine takeY 4 ⟨some 128, _, _, _, _, _⟩ (v := ?_) ?_ ?_
  rotate_left
  · intro W hSw
    try dsimp only at hSw
    go_simp
    all_goals (with_reducible rfl)
  try simp only [Act.put, List.setIfInBounds_toArray, List.set_cons_zero, List.set_cons_succ]
  refine wpAnyH_ready (rs := [5]) (by kernel_rfl) (by simp) ?_
  refine AllReadyH.cons (o := { dst := some 129, op := Go.Op.call { callee := Go.Callee.value (Go.Operand.func 41), args := #[Go.Operand.tmp 128], argTypes := #[3] }, type := 4, pos := "ref.go:78", after := #[{ on := 4, ground := Go.Ground.data }], guard := none }) rfl (fun K hK => ?_) AllReadyH.nil
  go_simp
  refine (HTY.out _).mono ?_
  rintro e w1 ⟨rfl, rfl⟩
  refine hK.out _ _ (by exact hHeld) (fun hHeld2 => ?_)
  clear hK K hHeld
  have hHeld := hHeld2
  clear hHeld2
  try simp only [Act.put, List.setIfInBounds_toArray, List.set_cons_zero, List.set_cons_succ]
  refine takeY 6 ⟨some 130, _, _, _, _, _⟩ (v := ?_) ?_ ?_
  rotate_left
  · intro W hSw
    try dsimp only at hSw
    go_simp
    all_goals (with_reducible rfl)
  try simp only [Act.put, List.setIfInBounds_toArray, List.set_cons_zero, List.set_cons_succ]
  refine takeY 7 ⟨some 131, _, _, _, _, _⟩ (v := ?_) ?_ ?_
  rotate_left
  · intro W hSw
    try dsimp only at hSw
    go_simp
    all_goals (with_reducible rfl)
  try simp only [Act.put, List.setIfInBounds_toArray, List.set_cons_zero, List.set_cons_succ]
  refine takeY 8 ⟨some 132, _, _, _, _, _⟩ (v := ?_) ?_ ?_
  rotate_left
  · intro W hSw
    try dsimp only at hSw
    go_simp
    all_goals (with_reducible rfl)
  try simp only [Act.put, List.setIfInBounds_toArray, List.set_cons_zero, List.set_cons_succ]
  refine takeY 9 ⟨some 133, _, _, _, _, _⟩ (v := ?_) ?_ ?_
  rotate_left
  · intro W hSw
    try dsimp only at hSw
    go_simp
    all_goals (with_reducible rfl)
  try simp only [Act.put, List.setIfInBounds_toArray, List.set_cons_zero, List.set_cons_succ]
  refine takeY 10 ⟨some 134, _, _, _, _, _⟩ (v := ?_) ?_ ?_
  rotate_left
  · intro W hSw
    try dsimp only at hSw
    go_simp
    all_goals (with_reducible rfl)
  try simp only [Act.put, List.setIfInBounds_toArray, List.set_cons_zero, List.set_cons_succ]
  refine takeY 11 ⟨some 135, _, _, _, _, _⟩ (v := ?_) ?_ ?_
  rotate_left
  · intro W hSw
    try dsimp only at hSw
    go_simp
    all_goals (with_reducible rfl)
  try simp only [Act.put, List.setIfInBounds_toArray, List.set_cons_zero, List.set_cons_succ]
  refine takeY 12 ⟨some 136, _, _, _, _, _⟩ (v := ?_) ?_ ?_
  rotate_left
  · intro W hSw
    try dsimp only at hSw
    go_simp
    all_goals (with_reducible rfl)
  try simp only [Act.put, List.setIfInBounds_toArray, List.set_cons_zero, List.set_cons_succ]
  refine takeY 13 ⟨some 137, _, _, _, _, _⟩ (v := ?_) ?_ ?_
  rotate_left
  · intro W hSw
    try dsimp only at hSw
    go_simp
    all_goals (with_reducible rfl)
  try simp only [Act.put, List.setIfInBounds_toArray, List.set_cons_zero, List.set_cons_succ]
  refine takeY 14 ⟨some 138, _, _, _, _, _⟩ (v := ?_) ?_ ?_
  rotate_left
  · intro W hSw
    try dsimp only at hSw
    go_simp
    all_goals (with_reducible rfl)
  try simp only [Act.put, List.setIfInBounds_toArray, List.set_cons_zero, List.set_cons_succ]
  refine takeY 15 ⟨some 139, _, _, _, _, _⟩ (v := ?_) ?_ ?_
  rotate_left
  · intro W hSw
    try dsimp only at hSw
    go_simp
    all_goals (with_reducible rfl)
  try simp only [Act.put, List.setIfInBounds_toArray, List.set_cons_zero, List.set_cons_succ]
  refine takeY 16 ⟨some 140, _, _, _, _, _⟩ (v := ?_) ?_ ?_
  rotate_left
  · intro W hSw
    try dsimp only at hSw
    go_simp
    all_goals (with_reducible rfl)
  try simp only [Act.put, List.setIfInBounds_toArray, List.set_cons_zero, List.set_cons_succ]
  refine takeY 17 ⟨some 141, _, _, _, _, _⟩ (v := ?_) ?_ ?_
  rotate_left
  · intro W hSw
    try dsimp only at hSw
    go_simp
    all_goals (with_reducible rfl)
  try simp only [Act.put, List.setIfInBounds_toArray, List.set_cons_zero, List.set_cons_succ]
  refine takeY 18 ⟨some 142, _, _, _, _, _⟩ (v := ?_) ?_ ?_
  rotate_left
  · intro W hSw
    try dsimp only at hSw
    go_simp
    all_goals (with_reducible rfl)
  try simp only [Act.put, List.setIfInBounds_toArray, List.set_cons_zero, List.set_cons_succ]
  refine takeY 19 ⟨some 143, _, _, _, _, _⟩ (v := ?_) ?_ ?_
  rotate_left
  · intro W hSw
    try dsimp only at hSw
    go_simp
    all_goals (with_reducible rfl)
  try simp only [Act.put, List.setIfInBounds_toArray, List.set_cons_zero, List.set_cons_succ]
  refine takeY 20 ⟨some 144, _, _, _, _, _⟩ (v := ?_) ?_ ?_
  rotate_left
  · intro W hSw
    try dsimp only at hSw
    go_simp
    all_goals (with_reducible rfl)
  try simp only [Act.put, List.setIfInBounds_toArray, List.set_cons_zero, List.set_cons_succ]
  refine takeY 21 ⟨some 145, _, _, _, _, _⟩ (v := ?_) ?_ ?_
  rotate_left
  · intro W hSw
    try dsimp only at hSw
    go_simp
    all_goals (with_reducible rfl)
  try simp only [Act.put, List.setIfInBounds_toArray, List.set_cons_zero, List.set_cons_succ]
  refine takeY 22 ⟨some 146, _, _, _, _, _⟩ (v := ?_) ?_ ?_
  rotate_left
  · intro W hSw
    try dsimp only at hSw
    go_simp
    all_goals (with_reducible rfl)
  try simp only [Act.put, List.setIfInBounds_toArray, List.set_cons_zero, List.set_cons_succ]
  refine takeY 23 ⟨some 147, _, _, _, _, _⟩ (v := ?_) ?_ ?_
  rotate_left
  · intro W hSw
    try dsimp only at hSw
    go_simp
    all_goals (with_reducible rfl)
  try simp only [Act.put, List.setIfInBounds_toArray, List.set_cons_zero, List.set_cons_succ]
  refine takeY 24 ⟨some 148, _, _, _, _, _⟩ (v := ?_) ?_ ?_
  rotate_left
  · intro W hSw
    try dsimp only at hSw
    go_simp
    all_goals (with_reducible rfl)
  try simp only [Act.put, List.setIfInBounds_toArray, List.set_cons_zero, List.set_cons_succ]
  refine takeY 25 ⟨some 149, _, _, _, _, _⟩ (v := ?_) ?_ ?_
  rotate_left
  · intro W hSw
    try dsimp only at hSw
    go_simp
    all_goals (with_reducible rfl)
  try simp only [Act.put, List.setIfInBounds_toArray, List.set_cons_zero, List.set_cons_succ]
  refine takeY 26 ⟨some 150, _, _, _, _, _⟩ (v := ?_) ?_ ?_
  rotate_left
  · intro W hSw
    try dsimp only at hSw
    go_simp
    all_goals (with_reducible rfl)
  try simp only [Act.put, List.setIfInBounds_toArray, List.set_cons_zero, List.set_cons_succ]
  refine takeY 27 ⟨some 151, _, _, _, _, _⟩ (v := ?_) ?_ ?_
  rotate_left
  · intro W hSw
    try dsimp only at hSw
    go_simp
    all_goals (with_reducible rfl)
  try simp only [Act.put, List.setIfInBounds_toArray, List.set_cons_zero, List.set_cons_succ]
  refine takeY 28 ⟨some 152, _, _, _, _, _⟩ (v := ?_) ?_ ?_
  rotate_left
  · intro W hSw
    try dsimp only at hSw
    go_simp
    all_goals (with_reducible rfl)
  try simp only [Act.put, List.setIfInBounds_toArray, List.set_cons_zero, List.set_cons_succ]
  refine takeY 29 ⟨some 153, _, _, _, _, _⟩ (v := ?_) ?_ ?_
  rotate_left
  · intro W hSw
    try dsimp only at hSw
    go_simp
    all_goals (with_reducible rfl)
  try simp only [Act.put, List.setIfInBounds_toArray, List.set_cons_zero, List.set_cons_succ]
  refine takeY 30 ⟨some 154, _, _, _, _, _⟩ (v := ?_) ?_ ?_
  rotate_left
  · intro W hSw
    try dsimp only at hSw
    go_simp
    all_goals (with_reducible rfl)
  try simp only [Act.put, List.setIfInBounds_toArray, List.set_cons_zero, List.set_cons_succ]
  refine wpAnyH_ready (rs := [31]) (by kernel_rfl) (by simp) ?_
  refine AllReadyH.cons (o := { dst := some 155, op := Go.Op.call { callee := Go.Callee.value (Go.Operand.func 24), args := #[Go.Operand.tmp 154], argTypes := #[29] }, type := 4, pos := "ref.go:78", after := #[{ on := 30, ground := Go.Ground.data }, { on := 28, ground := Go.Ground.chain }, { on := 28, ground := Go.Ground.guard }], guard := some (28, true) }) rfl (fun K hK => ?_) AllReadyH.nil
  go_simp
  refine (HSZ.out _ HBX.out.below).mono ?_
  rintro e w1 ⟨rfl, rfl⟩
  refine hK.out _ _ (by exact hHeld) (fun hHeld2 => ?_)
  clear hK K hHeld
  have hHeld := hHeld2
  clear hHeld2
  try simp only [Act.put, List.setIfInBounds_toArray, List.set_cons_zero, List.set_cons_succ]
  refine takeY 32 ⟨some 156, _, _, _, _, _⟩ (v := ?_) ?_ ?_
  rotate_left
  · intro W hSw
    try dsimp only at hSw
    go_simp
    all_goals (with_reducible rfl)
  try simp only [Act.put, List.setIfInBounds_toArray, List.set_cons_zero, List.set_cons_succ]
  refine takeY 33 ⟨some 157, _, _, _, _, _⟩ (v := ?_) ?_ ?_
  rotate_left
  · intro W hSw
    try dsimp only at hSw
    go_simp
    all_goals (with_reducible rfl)
  try simp only [Act.put, List.setIfInBounds_toArray, List.set_cons_zero, List.set_cons_succ]
  refine takeY 34 ⟨some 158, _, _, _, _, _⟩ (v := ?_) ?_ ?_
  rotate_left
  · intro W hSw
    try dsimp only at hSw
    go_simp
    all_goals (with_reducible rfl)
  try simp only [Act.put, List.setIfInBounds_toArray, List.set_cons_zero, List.set_cons_succ]
  refine takeY 35 ⟨some 159, _, _, _, _, _⟩ (v := ?_) ?_ ?_
  rotate_left
  · intro W hSw
    try dsimp only at hSw
    go_simp
    all_goals (with_reducible rfl)
  try simp only [Act.put, List.setIfInBounds_toArray, List.set_cons_zero, List.set_cons_succ]
  refine takeY 36 ⟨some 160, _, _, _, _, _⟩ (v := ?_) ?_ ?_
  rotate_left
  · intro W hSw
    try dsimp only at hSw
    go_simp
    all_goals (with_reducible rfl)
  try simp only [Act.put, List.setIfInBounds_toArray, List.set_cons_zero, List.set_cons_succ]
  refine takeY 37 ⟨some 161, _, _, _, _, _⟩ (v := ?_) ?_ ?_
  rotate_left
  · intro W hSw
    try dsimp only at hSw
    go_simp
    all_goals (with_reducible rfl)
  try simp only [Act.put, List.setIfInBounds_toArray, List.set_cons_zero, List.set_cons_succ]
  refine wpAnyH_ready (rs := [38]) (by kernel_rfl) (by simp) ?_
  refine AllReadyH.cons (o := { dst := some 162, op := Go.Op.call { callee := Go.Callee.value (Go.Operand.func 18), args := #[Go.Operand.tmp 159, Go.Operand.tmp 161], argTypes := #[29, 29] }, type := 4, pos := "ref.go:78", after := #[{ on := 35, ground := Go.Ground.data }, { on := 37, ground := Go.Ground.data }, { on := 33, ground := Go.Ground.chain }, { on := 33, ground := Go.Ground.guard }], guard := some (33, true) }) rfl (fun K hK => ?_) AllReadyH.nil
  go_simp
  refine (HUN.out _ HBX.out).mono ?_
  rintro e w2 ⟨rfl, hb2⟩
  have HB2 := Lib.hid (HBX.out.step hb2)
  clear hb2
  refine hK.out _ _ (by exact HCS.out _ HB2.out) (fun hHeld2 => ?_)
  clear hK K hHeld
  have hHeld := hHeld2
  clear hHeld2
  try simp only [Act.put, List.setIfInBounds_toArray, List.set_cons_zero, List.set_cons_succ]
  refine takeY 39 ⟨some 163, _, _, _, _, _⟩ (v := ?_) ?_ ?_
  rotate_left
  · intro W hSw
    try dsimp only at hSw
    go_simp
    all_goals (with_reducible rfl)
  try simp only [Act.put, List.setIfInBounds_toArray, List.set_cons_zero, List.set_cons_succ]
  refine takeY 40 ⟨some 164, _, _, _, _, _⟩ (v := ?_) ?_ ?_
  rotate_left
  · intro W hSw
    try dsimp only at hSw
    go_simp
    all_goals (with_reducible rfl)
  try simp only [Act.put, List.setIfInBounds_toArray, List.set_cons_zero, List.set_cons_succ]
  refine takeY 41 ⟨some 165, _, _, _, _, _⟩ (v := ?_) ?_ ?_
  rotate_left
  · intro W hSw
    try dsimp only at hSw
    go_simp
    all_goals (with_reducible rfl)
  try simp only [Act.put, List.setIfInBounds_toArray, List.set_cons_zero, List.set_cons_succ]
  refine wpAnyH_ready (rs := [42]) (by kernel_rfl) (by simp) ?_
  refine AllReadyH.cons (o := { dst := some 166, op := Go.Op.call { callee := Go.Callee.value (Go.Operand.func 42), args := #[Go.Operand.const (Go.Value.int Go.IntKind.i64 6), Go.Operand.tmp 165], argTypes := #[3, 34] }, type := 4, pos := "ref.go:78", after := #[{ on := 41, ground := Go.Ground.data }, { on := 40, ground := Go.Ground.chain }, { on := 40, ground := Go.Ground.guard }], guard := some (40, true) }) rfl (fun K hK => ?_) AllReadyH.nil
  go_simp
  refine (HDA.out _ HB2.out).mono ?_
  rintro e w3 ⟨rfl, hb3⟩
  have HB3 := Lib.hid (HB2.out.step hb3)
  clear hb3
  refine hK.out _ _ (by exact HCS.out _ HB3.out) (fun hHeld2 => ?_)
  clear hK K hHeld
  have hHeld := hHeld2
  clear hHeld2
  try simp only [Act.put, List.setIfInBounds_toArray, List.set_cons_zero, List.set_cons_succ]
  refine takeY 43 ⟨some 167, _, _, _, _, _⟩ (v := ?_) ?_ ?_
  rotate_left
  · intro W hSw
    try dsimp only at hSw
    go_simp
    all_goals (with_reducible rfl)
  try simp only [Act.put, List.setIfInBounds_toArray, List.set_cons_zero, List.set_cons_succ]
  refine takeY 44 ⟨some 2, _, _, _, _, _⟩ (v := ?_) ?_ ?_
  rotate_left
  · intro W hSw
    try dsimp only at hSw
    go_simp
    all_goals (with_reducible rfl)
  try simp only [Act.put, List.setIfInBounds_toArray, List.set_cons_zero, List.set_cons_succ]
  refine wpAnyH_done (by kernel_rfl) ?_ _
  go_wp2
  go_ret
  exact ⟨rfl, HB3.out.below⟩

end Go.Proofs.YtmbcbfalgdgmjaaGreatDoor

namespace Go.Proofs.YtmbcbfalgdgmjaaGreatDoor
open Go.RowKit

theorem noB_typed {f : Fc} (h : (decide (f.h.knd = 2) == typedB f.h.typ) = false) : noB f = false := by unfold noB; rw [h]; rfl
theorem noB_typ {f : Fc} (h1 : f.h.knd ≠ 2) (h : f.h.typ ≠ 0) : noB f = false := by unfold noB; rw [decide_eq_false h1, decide_eq_false h]; simp
theorem noB_set {f : Fc} (h : f.set.length ≠ 0) : noB f = false := by unfold noB; rw [decide_eq_false h]; simp
theorem noB_ttl {f : Fc} (h : 10800 < f.h.ttl) : noB f = false := by unfold noB; rw [decide_eq_false (show ¬ f.h.ttl ≤ 10800 by omega)]; simp
theorem noB_zone {f : Fc} (h : soundN f.zone = false) : noB f = false := by unfold noB; rw [h]; simp
theorem noB_under {f : Fc} (h : underN f.name f.zone = false) : noB f = false := by unfold noB; rw [h]; simp
theorem noB_soa {f : Fc} (h : soundD 6 f.soa = false) : noB f = false := by unfold noB; rw [h]; simp
theorem gave_is {w : World} {a b : Bool} {e : Ending} {w' : World} (h : a = b) : Gave w (.bool a) e w' → Gave w (.bool b) e w' := fun g => by rwa [h] at g

theorem refsound_any (w : World) (x : FV) (hx : FAt w w.heap.size x) (hi : FIn x) : Calls Tryz.prog 20 #[x.val] w (Gave w (.bool (soundF x.fact))) := by
  cases hh : headB x.name x.h with
  | false => exact (fsound_head_no w x hx hi hh).mono fun e w' => gave_is (soundF_head (f := x.fact) hh).symm
  | true =>
  by_cases k1 : x.h.knd = 1
  · exact (fsound_has w x hx hi hh k1).mono fun e w' => gave_is (soundF_has (f := x.fact) hh k1).symm
  by_cases k23 : x.h.knd = 2 ∨ x.h.knd = 3
  · have hn : soundF x.fact = noB x.fact := soundF_no (f := x.fact) hh k23
    cases hs : noB x.fact with
    | true => exact (refsound_yes w x hx hi (hn.trans hs)).mono fun e w' => gave_is (hn.trans hs).symm
    | false =>
    have no : ∀ {e : Ending} {w' : World}, Gave w (.bool false) e w' → Gave w (.bool (soundF x.fact)) e w' := gave_is (hn.trans hs).symm
    have hl : (dats x.sp).length = x.sp.length := length_dats _
    rcases k23 with k2 | k3
    · cases ht : typedB x.h.typ with
      | false => exact (fno_2a w x hx hi hh k2 ht).mono fun e w' => no
      | true =>
      by_cases h6 : x.sp.length = 0
      case neg => exact (fno_2c w x hx hi hh k2 ht h6).mono fun e w' => no
      by_cases h5 : 10800 < x.h.ttl
      · exact (fno_2d w x hx hi hh k2 ht h6 h5).mono fun e w' => no
      have h5' : x.h.ttl ≤ 10800 := by omega
      cases hz : soundN x.zone with
      | false => exact (fno_2e w x hx hi hh k2 ht h6 h5' hz).mono fun e w' => no
      | true =>
      cases hu : underN x.name x.zone with
      | false => exact (fno_2f w x hx hi hh k2 ht h6 h5' hz hu).mono fun e w' => no
      | true =>
      cases hd : soundD 6 x.soa with
      | false => exact (fno_2g w x hx hi hh k2 ht h6 h5' hz hu hd).mono fun e w' => no
      | true =>
      exfalso
      have h : noB x.fact = true := by
        unfold noB
        show ((decide (x.h.knd = 2) == typedB x.h.typ) && ((decide (x.h.knd = 2) || decide (x.h.typ = 0)) && (decide ((dats x.sp).length = 0) && (decide (x.h.ttl ≤ 10800) && (soundN x.zone && (underN x.name x.zone && soundD 6 x.soa)))))) = true
        rw [ht, hz, hu, hd, decide_eq_true k2, decide_eq_true h5', decide_eq_true (show (dats x.sp).length = 0 by omega)]
        rfl
      rw [h] at hs
      cases hs
    · have k2 : x.h.knd ≠ 2 := by omega
      cases ht : typedB x.h.typ with
      | true => exact (fno_3a w x hx hi hh k3 ht).mono fun e w' => no
      | false =>
      by_cases h0 : x.h.typ = 0
      case neg => exact (fno_3b w x hx hi hh k3 ht h0).mono fun e w' => no
      by_cases h6 : x.sp.length = 0
      case neg => exact (fno_3c w x hx hi hh k3 ht h0 h6).mono fun e w' => no
      by_cases h5 : 10800 < x.h.ttl
      · exact (fno_3d w x hx hi hh k3 ht h0 h6 h5).mono fun e w' => no
      have h5' : x.h.ttl ≤ 10800 := by omega
      cases hz : soundN x.zone with
      | false => exact (fno_3e w x hx hi hh k3 ht h0 h6 h5' hz).mono fun e w' => no
      | true =>
      cases hu : underN x.name x.zone with
      | false => exact (fno_3f w x hx hi hh k3 ht h0 h6 h5' hz hu).mono fun e w' => no
      | true =>
      cases hd : soundD 6 x.soa with
      | false => exact (fno_3g w x hx hi hh k3 ht h0 h6 h5' hz hu hd).mono fun e w' => no
      | true =>
      exfalso
      have h : noB x.fact = true := by
        unfold noB
        show ((decide (x.h.knd = 2) == typedB x.h.typ) && ((decide (x.h.knd = 2) || decide (x.h.typ = 0)) && (decide ((dats x.sp).length = 0) && (decide (x.h.ttl ≤ 10800) && (soundN x.zone && (underN x.name x.zone && soundD 6 x.soa)))))) = true
        rw [ht, hz, hu, hd, decide_eq_false k2, decide_eq_true h0, decide_eq_true h5', decide_eq_true (show (dats x.sp).length = 0 by omega)]
        rfl
      rw [h] at hs
      cases hs
  · exact (fsound_other w x hx hi hh k1 (fun h => k23 (.inl h)) (fun h => k23 (.inr h))).mono fun e w' => gave_is (soundF_other (f := x.fact) k1 (fun h => k23 (.inl h)) (fun h => k23 (.inr h))).symm

end Go.Proofs.YtmbcbfalgdgmjaaGreatDoor

namespace Go.Proofs.YtmbcbfalgdgmjaaGreatDoor
open Go.RowKit

theorem refsame_any (w : World) (x y : FV) (hx : FAt w w.heap.size x) (hy : FAt w w.heap.size y) (hi : FIn x) (hj : FIn y) : Calls Tryz.prog 14 #[x.val, y.val] w (Gave w (.bool (sameF x.fact y.fact))) :=
  refsame_by w x y hx hy hi hj (fun W' hb => refsound_any W' x ((hx.below hb).mono hb.size) hi) (fun W' hb => refsound_any W' y ((hy.below hb).mono hb.size) hj)

end Go.Proofs.YtmbcbfalgdgmjaaGreatDoor

namespace Go.Proofs.YtmbcbfalgdgmjaaGreatDoor
open Go.RowKit

set_option maxHeartbeats 800000 in
theorem refleft_any (g t n : Int) (w : World) : Calls Tryz.prog 13 #[.int .i64 g, .int .i64 t, .int .i64 n] w (Told w (.int .i64 (leftI g t n))) := by
  have hg := fun W => time_any g W
  have ht := fun W => time_any t W
  have hn := fun W => time_any n W
  cases h1 : timeB g
  · rw [h1] at hg
    have HG := Lib.hid hg
    have HV := Lib.hid (leftI_no (g := g) (t := t) (n := n) (by rw [times3, h1]; rfl))
    clear hg ht hn h1
    go_enter Tryz.func13, Tryz.ntmps13
    go_wp2_with (go_at_call 32; (first | (with_reducible refine (HG.out _).mono ?_)); rintro e w' ⟨rfl, rfl⟩)
    go_ret
    exact ⟨ret_int (by rw [HV.out]), rfl⟩
  · rw [h1] at hg
    have HG := Lib.hid hg
    clear hg
    cases h2 : timeB t
    · rw [h2] at ht
      have HT := Lib.hid ht
      have HV := Lib.hid (leftI_no (g := g) (t := t) (n := n) (by rw [times3, h1, h2]; rfl))
      clear ht hn h1 h2
      go_enter Tryz.func13, Tryz.ntmps13
      go_wp2_with (go_at_call 32; (first | (with_reducible refine (HG.out _).mono ?_) | (with_reducible refine (HT.out _).mono ?_)); rintro e w' ⟨rfl, rfl⟩)
      go_ret
      exact ⟨ret_int (by rw [HV.out]), rfl⟩
    · rw [h2] at ht
      have HT := Lib.hid ht
      clear ht
      cases h3 : timeB n
      · rw [h3] at hn
        have HN := Lib.hid hn
        have HV := Lib.hid (leftI_no (g := g) (t := t) (n := n) (by rw [times3, h1, h2, h3]; rfl))
        clear hn h1 h2 h3
        go_enter Tryz.func13, Tryz.ntmps13
        go_wp2_with (go_at_call 32; (first | (with_reducible refine (HG.out _).mono ?_) | (with_reducible refine (HT.out _).mono ?_) | (with_reducible refine (HN.out _).mono ?_)); rintro e w' ⟨rfl, rfl⟩)
        go_ret
        exact ⟨ret_int (by rw [HV.out]), rfl⟩
      · rw [h3] at hn
        have HN := Lib.hid hn
        have hs := times3_true h1 h2 h3
        obtain ⟨⟨_, _⟩, ⟨_, _⟩, _, _⟩ := times3_yes hs
        have HS := Lib.hid hs
        clear hn h1 h2 h3 hs
        by_cases hl : n < g
        · by_cases he : g + t ≤ g
          · have HV := Lib.hid (leftI_end (g := g) (t := t) (n := n) (by rw [if_pos hl]; omega))
            go_enter Tryz.func13, Tryz.ntmps13
            go_wp2_with (go_at_call 32; (first | (with_reducible refine (HG.out _).mono ?_) | (with_reducible refine (HT.out _).mono ?_) | (with_reducible refine (HN.out _).mono ?_)); rintro e w' ⟨rfl, rfl⟩)
            go_ret
            exact ⟨ret_int (by rw [HV.out]), rfl⟩
          · have HV := Lib.hid (leftI_some (g := g) (t := t) (n := n) HS.out (by rw [if_pos hl]; omega))
            go_enter Tryz.func13, Tryz.ntmps13
            go_wp2_with (go_at_call 32; (first | (with_reducible refine (HG.out _).mono ?_) | (with_reducible refine (HT.out _).mono ?_) | (with_reducible refine (HN.out _).mono ?_)); rintro e w' ⟨rfl, rfl⟩)
            go_ret
            exact ⟨ret_int (by rw [HV.out, if_pos hl]), rfl⟩
        · by_cases he : g + t ≤ n
          · have HV := Lib.hid (leftI_end (g := g) (t := t) (n := n) (by rw [if_neg hl]; omega))
            go_enter Tryz.func13, Tryz.ntmps13
            go_wp2_with (go_at_call 32; (first | (with_reducible refine (HG.out _).mono ?_) | (with_reducible refine (HT.out _).mono ?_) | (with_reducible refine (HN.out _).mono ?_)); rintro e w' ⟨rfl, rfl⟩)
            go_ret
            exact ⟨ret_int (by rw [HV.out]), rfl⟩
          · have HV := Lib.hid (leftI_some (g := g) (t := t) (n := n) HS.out (by rw [if_neg hl]; omega))
            have HL := Lib.hid hl
            go_enter Tryz.func13, Tryz.ntmps13
            go_wp2_with (go_at_call 32; (first | (with_reducible refine (HG.out _).mono ?_) | (with_reducible refine (HT.out _).mono ?_) | (with_reducible refine (HN.out _).mono ?_)); rintro e w' ⟨rfl, rfl⟩)
            go_ret
            exact ⟨ret_int (by rw [HV.out, if_neg (Int.not_lt.2 hl)]), rfl⟩

theorem staleB_of {g t k n : Int} (h : timesB [g, t, k, n] = true) (h' : leftI g t n = 0) : staleB g t k n = decide (n < g + t + k) := staleB_yes h (by omega)











































































































































theorem left_12 : leftI 10 5 12 = 3 := by decide +kernel












end Go.Proofs.YtmbcbfalgdgmjaaGreatDoor
