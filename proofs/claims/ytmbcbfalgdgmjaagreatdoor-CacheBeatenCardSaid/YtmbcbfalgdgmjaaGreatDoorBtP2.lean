/-
  The contract of the document's Sound of facts that say there is nothing, part 1.
-/
import Derived.Test.YtmbcbfalgdgmjaaGreatDoorKcP5
namespace Go.Proofs.YtmbcbfalgdgmjaaGreatDoor
open Go.RowKit

set_option maxRecDepth 20000 in
set_option maxHeartbeats 8000000 in
theorem fno_2a (w : World) (x : FV) (hx : FAt w w.heap.size x) (hi : FIn x) (hh : headB x.name x.h = true) (k1 : x.h.knd = 2) (hty : typedB x.h.typ = false) : Calls Tryz.prog 20 #[x.val] w (Gave w (.bool false)) := by
  obtain ⟨W, hW⟩ : ∃ W, W = w.alloc (.cells #[.slice x.A x.name.length x.c, .int .i64 x.h.typ, .int .i64 x.h.knd, .int .i64 x.h.rank, .int .i64 x.h.got, .int .i64 x.h.ttl, .slice x.sA x.sp.length x.sc, .slice x.zA x.zone.length x.zc, .slice x.d.Ab x.soa.bytes.length x.d.cb, .slice x.d.Ah x.soa.host.length x.d.ch, .slice x.d.Am x.soa.mail.length x.d.cm, .slice x.d.An x.soa.nums.length x.d.cn, .slice x.d.At x.soa.texts.length x.d.ct] 36) := ⟨_, rfl⟩
  have hB : Below w.heap.size w W := by rw [hW]; exact (Below.refl _ _).alloc (Nat.le_refl _) _
  have HB := Lib.hid hB
  have HN := Lib.hid (fun W' (hb : Below w.heap.size w W') => ref_sound_wide x.A x.c w.heap.size x.name W' (hx.n.below hb) hi.n.1 hi.n.2)
  have HT := Lib.hid (fun W' => time_any x.h.got W')
  have HX := Lib.hid hx
  have HI := Lib.hid hi
  have HTY := Lib.hid (fun W' => typed_any x.h.typ W')
  rw [hty] at HTY
  have b1 : (x.h.knd == 1) = false := by rw [k1]; rfl
  have b2 : (x.h.knd == 2) = true := by rw [k1]; rfl
  have b3 : (x.h.knd == 3) = false := by rw [k1]; rfl
  have HHP := Lib.hid (headB_parts hh)
  have HK := Lib.hid k1
  clear hx hi hh hB hty k1
  subst hW
  obtain ⟨hn, h1, h2, ht, h3, h4⟩ := HHP.out
  rw [hn] at HN
  rw [ht] at HT
  have d1 : decide (x.h.rank < 1) = false := decide_eq_false (by omega)
  have d2 : decide (4 < x.h.rank) = false := decide_eq_false (by omega)
  have d3 : decide (x.h.ttl < 0) = false := decide_eq_false (by omega)
  have d4 : decide (604800 < x.h.ttl) = false := decide_eq_false (by omega)
  clear hn ht h1 h2 h3 h4 HHP
  have HCS := Lib.hid (show ∀ W, FBoxes w x W → (W.cell? ⟨w.heap.size, 0, none⟩ = some (.slice x.A x.name.length x.c) ∧ W.cell? ⟨w.heap.size, 1, none⟩ = some (.int .i64 x.h.typ) ∧ W.cell? ⟨w.heap.size, 2, none⟩ = some (.int .i64 x.h.knd) ∧ W.cell? ⟨w.heap.size, 5, none⟩ = some (.int .i64 x.h.ttl) ∧ W.cell? ⟨w.heap.size, 6, none⟩ = some (.slice x.sA x.sp.length x.sc) ∧ W.cell? ⟨w.heap.size, 7, none⟩ = some (.slice x.zA x.zone.length x.zc)) ∧ (W.cell? ⟨w.heap.size + 1, 0, none⟩ = some (.slice x.d.Ab x.soa.bytes.length x.d.cb) ∧ W.cell? ⟨w.heap.size + 1, 1, none⟩ = some (.slice x.d.Ah x.soa.host.length x.d.ch) ∧ W.cell? ⟨w.heap.size + 1, 2, none⟩ = some (.slice x.d.Am x.soa.mail.length x.d.cm) ∧ W.cell? ⟨w.heap.size + 1, 3, none⟩ = some (.slice x.d.An x.soa.nums.length x.d.cn) ∧ W.cell? ⟨w.heap.size + 1, 4, none⟩ = some (.slice x.d.At x.soa.texts.length x.d.ct)) from fun W h => ⟨⟨h.f.cell 0, h.f.cell 1, h.f.cell 2, h.f.cell 5, h.f.cell 6, h.f.cell 7⟩, ⟨h.d.cell 0, h.d.cell 1, h.d.cell 2, h.d.cell 3, h.d.cell 4⟩⟩)
  have HBX := Lib.hid (FBoxes.made w x)
  go_enter Tryz.func20, Tryz.ntmps20
  go_wp2_with (first
    | (go_at_call 24; refine (HN.out _ HB.out).mono ?_; rintro e w1 ⟨rfl, rfl⟩)
    | (go_at_call 32; refine (HT.out _).mono ?_; rintro e w1 ⟨rfl, rfl⟩))
  refine wp_region_held_drew (S := fun W => (W.cell? ⟨w.heap.size, 0, none⟩ = some (.slice x.A x.name.length x.c) ∧ W.cell? ⟨w.heap.size, 1, none⟩ = some (.int .i64 x.h.typ) ∧ W.cell? ⟨w.heap.size, 2, none⟩ = some (.int .i64 x.h.knd) ∧ W.cell? ⟨w.heap.size, 5, none⟩ = some (.int .i64 x.h.ttl) ∧ W.cell? ⟨w.heap.size, 6, none⟩ = some (.slice x.sA x.sp.length x.sc) ∧ W.cell? ⟨w.heap.size, 7, none⟩ = some (.slice x.zA x.zone.length x.zc)) ∧ (W.cell? ⟨w.heap.size + 1, 0, none⟩ = some (.slice x.d.Ab x.soa.bytes.length x.d.cb) ∧ W.cell? ⟨w.heap.size + 1, 1, none⟩ = some (.slice x.d.Ah x.soa.host.length x.d.ch) ∧ W.cell? ⟨w.heap.size + 1, 2, none⟩ = some (.slice x.d.Am x.soa.mail.length x.d.cm) ∧ W.cell? ⟨w.heap.size + 1, 3, none⟩ = some (.slice x.d.An x.soa.nums.length x.d.cn) ∧ W.cell? ⟨w.heap.size + 1, 4, none⟩ = some (.slice x.d.At x.soa.texts.length x.d.ct))) (by kernel_rfl) (by exact HCS.out _ HBX.out) (fun hHeld => ?_)
  refine takeY 0 ⟨some 124, _, _, _, _, _⟩ (v := ?_) ?_ ?_
  rotate_left
  · intro W hSw
    try dsimp only at hSw
    go_simp
    all_goals (with_reducible rfl)
  try simp only [Act.put, List.setIfInBounds_toArray, List.set_cons_zero, List.set_cons_succ]
  refine takeY 1 ⟨some 125, _, _, _, _, _⟩ (v := ?_) ?_ ?_
  rotate_left
  · intro W hSw
    try dsimp only at hSw
    go_simp
    all_goals (with_reducible rfl)
  try simp only [Act.put, List.setIfInBounds_toArray, List.set_cons_zero, List.set_cons_succ]
  refine takeY 2 ⟨some 126, _, _, _, _, _⟩ (v := ?_) ?_ ?_
  rotate_left
  · intro W hSw
    try dsimp only at hSw
    go_simp
    all_goals (with_reducible rfl)
  try simp only [Act.put, List.setIfInBounds_toArray, List.set_cons_zero, List.set_cons_succ]
  refine takeY 3 ⟨some 127, _, _, _, _, _⟩ (v := ?_) ?_ ?_
  rotate_left
  · intro W hSw
    try dsimp only at hSw
    go_simp
    all_goals (with_reducible rfl)
  try simp only [Act.put, List.setIfInBounds_toArray, List.set_cons_zero, List.set_cons_succ]
  refine takeY 4 ⟨some 128, _, _, _, _, _⟩ (v := ?_) ?_ ?_
  rotate_left
  · intro W hSw
    try dsimp only at hSw
    go_simp
    all_goals (with_reducible rfl)
  try simp only [Act.put, List.setIfInBounds_toArray, List.set_cons_zero, List.set_cons_succ]
  refine wpAnyH_ready (rs := [5]) (by kernel_rfl) (by simp) ?_
  refine AllReadyH.cons (o := { dst := some 129, op := Go.Op.call { callee := Go.Callee.value (Go.Operand.func 41), args := #[Go.Operand.tmp 128], argTypes := #[3] }, type := 4, pos := "ref.go:78", after := #[{ on := 4, ground := Go.Ground.data }], guard := none }) rfl (fun K hK => ?_) AllReadyH.nil
  go_simp
  refine (HTY.out _).mono ?_
  rintro e w1 ⟨rfl, rfl⟩
  refine hK.out _ _ (by exact hHeld) (fun hHeld2 => ?_)
  clear hK K hHeld
  have hHeld := hHeld2
  clear hHeld2
  try simp only [Act.put, List.setIfInBounds_toArray, List.set_cons_zero, List.set_cons_succ]
  refine takeY 6 ⟨some 130, _, _, _, _, _⟩ (v := ?_) ?_ ?_
  rotate_left
  · intro W hSw
    try dsimp only at hSw
    go_simp
    all_goals (with_reducible rfl)
  try simp only [Act.put, List.setIfInBounds_toArray, List.set_cons_zero, List.set_cons_succ]
  refine takeY 7 ⟨some 131, _, _, _, _, _⟩ (v := ?_) ?_ ?_
  rotate_left
  · intro W hSw
    try dsimp only at hSw
    go_simp
    all_goals (with_reducible rfl)
  try simp only [Act.put, List.setIfInBounds_toArray, List.set_cons_zero, List.set_cons_succ]
  refine takeN 8 ⟨some 132, _, _, _, _, _⟩ ?_
  try simp only [Act.put, List.setIfInBounds_toArray, List.set_cons_zero, List.set_cons_succ]
  refine takeN 9 ⟨some 133, _, _, _, _, _⟩ ?_
  try simp only [Act.put, List.setIfInBounds_toArray, List.set_cons_zero, List.set_cons_succ]
  refine takeN 10 ⟨some 134, _, _, _, _, _⟩ ?_
  try simp only [Act.put, List.setIfInBounds_toArray, List.set_cons_zero, List.set_cons_succ]
  refine takeN 11 ⟨some 135, _, _, _, _, _⟩ ?_
  try simp only [Act.put, List.setIfInBounds_toArray, List.set_cons_zero, List.set_cons_succ]
  refine takeN 12 ⟨some 136, _, _, _, _, _⟩ ?_
  try simp only [Act.put, List.setIfInBounds_toArray, List.set_cons_zero, List.set_cons_succ]
  refine takeN 13 ⟨some 137, _, _, _, _, _⟩ ?_
  try simp only [Act.put, List.setIfInBounds_toArray, List.set_cons_zero, List.set_cons_succ]
  refine takeN 14 ⟨some 138, _, _, _, _, _⟩ ?_
  try simp only [Act.put, List.setIfInBounds_toArray, List.set_cons_zero, List.set_cons_succ]
  refine takeN 15 ⟨some 139, _, _, _, _, _⟩ ?_
  try simp only [Act.put, List.setIfInBounds_toArray, List.set_cons_zero, List.set_cons_succ]
  refine takeY 16 ⟨some 140, _, _, _, _, _⟩ (v := ?_) ?_ ?_
  rotate_left
  · intro W hSw
    try dsimp only at hSw
    go_simp
    all_goals (with_reducible rfl)
  try simp only [Act.put, List.setIfInBounds_toArray, List.set_cons_zero, List.set_cons_succ]
  refine takeY 17 ⟨some 141, _, _, _, _, _⟩ (v := ?_) ?_ ?_
  rotate_left
  · intro W hSw
    try dsimp only at hSw
    go_simp
    all_goals (with_reducible rfl)
  try simp only [Act.put, List.setIfInBounds_toArray, List.set_cons_zero, List.set_cons_succ]
  refine takeN 18 ⟨some 142, _, _, _, _, _⟩ ?_
  try simp only [Act.put, List.setIfInBounds_toArray, List.set_cons_zero, List.set_cons_succ]
  refine takeN 19 ⟨some 143, _, _, _, _, _⟩ ?_
  try simp only [Act.put, List.setIfInBounds_toArray, List.set_cons_zero, List.set_cons_succ]
  refine takeN 20 ⟨some 144, _, _, _, _, _⟩ ?_
  try simp only [Act.put, List.setIfInBounds_toArray, List.set_cons_zero, List.set_cons_succ]
  refine takeN 21 ⟨some 145, _, _, _, _, _⟩ ?_
  try simp only [Act.put, List.setIfInBounds_toArray, List.set_cons_zero, List.set_cons_succ]
  refine takeY 22 ⟨some 146, _, _, _, _, _⟩ (v := ?_) ?_ ?_
  rotate_left
  · intro W hSw
    try dsimp only at hSw
    go_simp
    all_goals (with_reducible rfl)
  try simp only [Act.put, List.setIfInBounds_toArray, List.set_cons_zero, List.set_cons_succ]
  refine takeY 23 ⟨some 147, _, _, _, _, _⟩ (v := ?_) ?_ ?_
  rotate_left
  · intro W hSw
    try dsimp only at hSw
    go_simp
    all_goals (with_reducible rfl)
  try simp only [Act.put, List.setIfInBounds_toArray, List.set_cons_zero, List.set_cons_succ]
  refine takeN 24 ⟨some 148, _, _, _, _, _⟩ ?_
  try simp only [Act.put, List.setIfInBounds_toArray, List.set_cons_zero, List.set_cons_succ]
  refine takeN 25 ⟨some 149, _, _, _, _, _⟩ ?_
  try simp only [Act.put, List.setIfInBounds_toArray, List.set_cons_zero, List.set_cons_succ]
  refine takeN 26 ⟨some 150, _, _, _, _, _⟩ ?_
  try simp only [Act.put, List.setIfInBounds_toArray, List.set_cons_zero, List.set_cons_succ]
  refine takeY 27 ⟨some 151, _, _, _, _, _⟩ (v := ?_) ?_ ?_
  rotate_left
  · intro W hSw
    try dsimp only at hSw
    go_simp
    all_goals (with_reducible rfl)
  try simp only [Act.put, List.setIfInBounds_toArray, List.set_cons_zero, List.set_cons_succ]
  refine takeY 28 ⟨some 152, _, _, _, _, _⟩ (v := ?_) ?_ ?_
  rotate_left
  · intro W hSw
    try dsimp only at hSw
    go_simp
    all_goals (with_reducible rfl)
  try simp only [Act.put, List.setIfInBounds_toArray, List.set_cons_zero, List.set_cons_succ]
  refine takeN 29 ⟨some 153, _, _, _, _, _⟩ ?_
  try simp only [Act.put, List.setIfInBounds_toArray, List.set_cons_zero, List.set_cons_succ]
  refine takeN 30 ⟨some 154, _, _, _, _, _⟩ ?_
  try simp only [Act.put, List.setIfInBounds_toArray, List.set_cons_zero, List.set_cons_succ]
  refine takeN 31 ⟨some 155, _, _, _, _, _⟩ ?_
  try simp only [Act.put, List.setIfInBounds_toArray, List.set_cons_zero, List.set_cons_succ]
  refine takeY 32 ⟨some 156, _, _, _, _, _⟩ (v := ?_) ?_ ?_
  rotate_left
  · intro W hSw
    try dsimp only at hSw
    go_simp
    all_goals (with_reducible rfl)
  try simp only [Act.put, List.setIfInBounds_toArray, List.set_cons_zero, List.set_cons_succ]
  refine takeY 33 ⟨some 157, _, _, _, _, _⟩ (v := ?_) ?_ ?_
  rotate_left
  · intro W hSw
    try dsimp only at hSw
    go_simp
    all_goals (with_reducible rfl)
  try simp only [Act.put, List.setIfInBounds_toArray, List.set_cons_zero, List.set_cons_succ]
  refine takeN 34 ⟨some 158, _, _, _, _, _⟩ ?_
  try simp only [Act.put, List.setIfInBounds_toArray, List.set_cons_zero, List.set_cons_succ]
  refine takeN 35 ⟨some 159, _, _, _, _, _⟩ ?_
  try simp only [Act.put, List.setIfInBounds_toArray, List.set_cons_zero, List.set_cons_succ]
  refine takeN 36 ⟨some 160, _, _, _, _, _⟩ ?_
  try simp only [Act.put, List.setIfInBounds_toArray, List.set_cons_zero, List.set_cons_succ]
  refine takeN 37 ⟨some 161, _, _, _, _, _⟩ ?_
  try simp only [Act.put, List.setIfInBounds_toArray, List.set_cons_zero, List.set_cons_succ]
  refine takeN 38 ⟨some 162, _, _, _, _, _⟩ ?_
  try simp only [Act.put, List.setIfInBounds_toArray, List.set_cons_zero, List.set_cons_succ]
  refine takeY 39 ⟨some 163, _, _, _, _, _⟩ (v := ?_) ?_ ?_
  rotate_left
  · intro W hSw
    try dsimp only at hSw
    go_simp
    all_goals (with_reducible rfl)
  try simp only [Act.put, List.setIfInBounds_toArray, List.set_cons_zero, List.set_cons_succ]
  refine takeY 40 ⟨some 164, _, _, _, _, _⟩ (v := ?_) ?_ ?_
  rotate_left
  · intro W hSw
    try dsimp only at hSw
    go_simp
    all_goals (with_reducible rfl)
  try simp only [Act.put, List.setIfInBounds_toArray, List.set_cons_zero, List.set_cons_succ]
  refine takeN 41 ⟨some 165, _, _, _, _, _⟩ ?_
  try simp only [Act.put, List.setIfInBounds_toArray, List.set_cons_zero, List.set_cons_succ]
  refine takeN 42 ⟨some 166, _, _, _, _, _⟩ ?_
  try simp only [Act.put, List.setIfInBounds_toArray, List.set_cons_zero, List.set_cons_succ]
  refine takeY 43 ⟨some 167, _, _, _, _, _⟩ (v := ?_) ?_ ?_
  rotate_left
  · intro W hSw
    try dsimp only at hSw
    go_simp
    all_goals (with_reducible rfl)
  try simp only [Act.put, List.setIfInBounds_toArray, List.set_cons_zero, List.set_cons_succ]
  refine takeY 44 ⟨some 2, _, _, _, _, _⟩ (v := ?_) ?_ ?_
  rotate_left
  · intro W hSw
    try dsimp only at hSw
    go_simp
    all_goals (with_reducible rfl)
  try simp only [Act.put, List.setIfInBounds_toArray, List.set_cons_zero, List.set_cons_succ]
  refine wpAnyH_done (by kernel_rfl) ?_ _
  go_wp2
  go_ret
  exact ⟨rfl, HBX.out.below⟩

set_option maxRecDepth 20000 in
set_option maxHeartbeats 8000000 in
theorem fno_3a (w : World) (x : FV) (hx : FAt w w.heap.size x) (hi : FIn x) (hh : headB x.name x.h = true) (k1 : x.h.knd = 3) (hty : typedB x.h.typ = true) : Calls Tryz.prog 20 #[x.val] w (Gave w (.bool false)) := by
  obtain ⟨W, hW⟩ : ∃ W, W = w.alloc (.cells #[.slice x.A x.name.length x.c, .int .i64 x.h.typ, .int .i64 x.h.knd, .int .i64 x.h.rank, .int .i64 x.h.got, .int .i64 x.h.ttl, .slice x.sA x.sp.length x.sc, .slice x.zA x.zone.length x.zc, .slice x.d.Ab x.soa.bytes.length x.d.cb, .slice x.d.Ah x.soa.host.length x.d.ch, .slice x.d.Am x.soa.mail.length x.d.cm, .slice x.d.An x.soa.nums.length x.d.cn, .slice x.d.At x.soa.texts.length x.d.ct] 36) := ⟨_, rfl⟩
  have hB : Below w.heap.size w W := by rw [hW]; exact (Below.refl _ _).alloc (Nat.le_refl _) _
  have HB := Lib.hid hB
  have HN := Lib.hid (fun W' (hb : Below w.heap.size w W') => ref_sound_wide x.A x.c w.heap.size x.name W' (hx.n.below hb) hi.n.1 hi.n.2)
  have HT := Lib.hid (fun W' => time_any x.h.got W')
  have HX := Lib.hid hx
  have HI := Lib.hid hi
  have HTY := Lib.hid (fun W' => typed_any x.h.typ W')
  rw [hty] at HTY
  have b1 : (x.h.knd == 1) = false := by rw [k1]; rfl
  have b2 : (x.h.knd == 2) = false := by rw [k1]; rfl
  have b3 : (x.h.knd == 3) = true := by rw [k1]; rfl
  have HHP := Lib.hid (headB_parts hh)
  have HK := Lib.hid k1
  clear hx hi hh hB hty k1
  subst hW
  obtain ⟨hn, h1, h2, ht, h3, h4⟩ := HHP.out
  rw [hn] at HN
  rw [ht] at HT
  have d1 : decide (x.h.rank < 1) = false := decide_eq_false (by omega)
  have d2 : decide (4 < x.h.rank) = false := decide_eq_false (by omega)
  have d3 : decide (x.h.ttl < 0) = false := decide_eq_false (by omega)
  have d4 : decide (604800 < x.h.ttl) = false := decide_eq_false (by omega)
  clear hn ht h1 h2 h3 h4 HHP
  have HCS := Lib.hid (show ∀ W, FBoxes w x W → (W.cell? ⟨w.heap.size, 0, none⟩ = some (.slice x.A x.name.length x.c) ∧ W.cell? ⟨w.heap.size, 1, none⟩ = some (.int .i64 x.h.typ) ∧ W.cell? ⟨w.heap.size, 2, none⟩ = some (.int .i64 x.h.knd) ∧ W.cell? ⟨w.heap.size, 5, none⟩ = some (.int .i64 x.h.ttl) ∧ W.cell? ⟨w.heap.size, 6, none⟩ = some (.slice x.sA x.sp.length x.sc) ∧ W.cell? ⟨w.heap.size, 7, none⟩ = some (.slice x.zA x.zone.length x.zc)) ∧ (W.cell? ⟨w.heap.size + 1, 0, none⟩ = some (.slice x.d.Ab x.soa.bytes.length x.d.cb) ∧ W.cell? ⟨w.heap.size + 1, 1, none⟩ = some (.slice x.d.Ah x.soa.host.length x.d.ch) ∧ W.cell? ⟨w.heap.size + 1, 2, none⟩ = some (.slice x.d.Am x.soa.mail.length x.d.cm) ∧ W.cell? ⟨w.heap.size + 1, 3, none⟩ = some (.slice x.d.An x.soa.nums.length x.d.cn) ∧ W.cell? ⟨w.heap.size + 1, 4, none⟩ = some (.slice x.d.At x.soa.texts.length x.d.ct)) from fun W h => ⟨⟨h.f.cell 0, h.f.cell 1, h.f.cell 2, h.f.cell 5, h.f.cell 6, h.f.cell 7⟩, ⟨h.d.cell 0, h.d.cell 1, h.d.cell 2, h.d.cell 3, h.d.cell 4⟩⟩)
  have HBX := Lib.hid (FBoxes.made w x)
  go_enter Tryz.func20, Tryz.ntmps20
  go_wp2_with (first
    | (go_at_call 24; refine (HN.out _ HB.out).mono ?_; rintro e w1 ⟨rfl, rfl⟩)
    | (go_at_call 32; refine (HT.out _).mono ?_; rintro e w1 ⟨rfl, rfl⟩))
  refine wp_region_held_drew (S := fun W => (W.cell? ⟨w.heap.size, 0, none⟩ = some (.slice x.A x.name.length x.c) ∧ W.cell? ⟨w.heap.size, 1, none⟩ = some (.int .i64 x.h.typ) ∧ W.cell? ⟨w.heap.size, 2, none⟩ = some (.int .i64 x.h.knd) ∧ W.cell? ⟨w.heap.size, 5, none⟩ = some (.int .i64 x.h.ttl) ∧ W.cell? ⟨w.heap.size, 6, none⟩ = some (.slice x.sA x.sp.length x.sc) ∧ W.cell? ⟨w.heap.size, 7, none⟩ = some (.slice x.zA x.zone.length x.zc)) ∧ (W.cell? ⟨w.heap.size + 1, 0, none⟩ = some (.slice x.d.Ab x.soa.bytes.length x.d.cb) ∧ W.cell? ⟨w.heap.size + 1, 1, none⟩ = some (.slice x.d.Ah x.soa.host.length x.d.ch) ∧ W.cell? ⟨w.heap.size + 1, 2, none⟩ = some (.slice x.d.Am x.soa.mail.length x.d.cm) ∧ W.cell? ⟨w.heap.size + 1, 3, none⟩ = some (.slice x.d.An x.soa.nums.length x.d.cn) ∧ W.cell? ⟨w.heap.size + 1, 4, none⟩ = some (.slice x.d.At x.soa.texts.length x.d.ct))) (by kernel_rfl) (by exact HCS.out _ HBX.out) (fun hHeld => ?_)
  refine takeY 0 ⟨some 124, _, _, _, _, _⟩ (v := ?_) ?_ ?_
  rotate_left
  · intro W hSw
    try dsimp only at hSw
    go_simp
    all_goals (with_reducible rfl)
  try simp only [Act.put, List.setIfInBounds_toArray, List.set_cons_zero, List.set_cons_succ]
  refine takeY 1 ⟨some 125, _, _, _, _, _⟩ (v := ?_) ?_ ?_
  rotate_left
  · intro W hSw
    try dsimp only at hSw
    go_simp
    all_goals (with_reducible rfl)
  try simp only [Act.put, List.setIfInBounds_toArray, List.set_cons_zero, List.set_cons_succ]
  refine takeY 2 ⟨some 126, _, _, _, _, _⟩ (v := ?_) ?_ ?_
  rotate_left
  · intro W hSw
    try dsimp only at hSw
    go_simp
    all_goals (with_reducible rfl)
  try simp only [Act.put, List.setIfInBounds_toArray, List.set_cons_zero, List.set_cons_succ]
  refine takeY 3 ⟨some 127, _, _, _, _, _⟩ (v := ?_) ?_ ?_
  rotate_left
  · intro W hSw
    try dsimp only at hSw
    go_simp
    all_goals (with_reducible rfl)
  try simp only [Act.put, List.setIfInBounds_toArray, List.set_cons_zero, List.set_cons_succ]
  refine takeY 4 ⟨some 128, _, _, _, _, _⟩ (v := ?_) ?_ ?_
  rotate_left
  · intro W hSw
    try dsimp only at hSw
    go_simp
    all_goals (with_reducible rfl)
  try simp only [Act.put, List.setIfInBounds_toArray, List.set_cons_zero, List.set_cons_succ]
  refine wpAnyH_ready (rs := [5]) (by kernel_rfl) (by simp) ?_
  refine AllReadyH.cons (o := { dst := some 129, op := Go.Op.call { callee := Go.Callee.value (Go.Operand.func 41), args := #[Go.Operand.tmp 128], argTypes := #[3] }, type := 4, pos := "ref.go:78", after := #[{ on := 4, ground := Go.Ground.data }], guard := none }) rfl (fun K hK => ?_) AllReadyH.nil
  go_simp
  refine (HTY.out _).mono ?_
  rintro e w1 ⟨rfl, rfl⟩
  refine hK.out _ _ (by exact hHeld) (fun hHeld2 => ?_)
  clear hK K hHeld
  have hHeld := hHeld2
  clear hHeld2
  try simp only [Act.put, List.setIfInBounds_toArray, List.set_cons_zero, List.set_cons_succ]
  refine takeY 6 ⟨some 130, _, _, _, _, _⟩ (v := ?_) ?_ ?_
  rotate_left
  · intro W hSw
    try dsimp only at hSw
    go_simp
    all_goals (with_reducible rfl)
  try simp only [Act.put, List.setIfInBounds_toArray, List.set_cons_zero, List.set_cons_succ]
  refine takeY 7 ⟨some 131, _, _, _, _, _⟩ (v := ?_) ?_ ?_
  rotate_left
  · intro W hSw
    try dsimp only at hSw
    go_simp
    all_goals (with_reducible rfl)
  try simp only [Act.put, List.setIfInBounds_toArray, List.set_cons_zero, List.set_cons_succ]
  refine takeN 8 ⟨some 132, _, _, _, _, _⟩ ?_
  try simp only [Act.put, List.setIfInBounds_toArray, List.set_cons_zero, List.set_cons_succ]
  refine takeN 9 ⟨some 133, _, _, _, _, _⟩ ?_
  try simp only [Act.put, List.setIfInBounds_toArray, List.set_cons_zero, List.set_cons_succ]
  refine takeN 10 ⟨some 134, _, _, _, _, _⟩ ?_
  try simp only [Act.put, List.setIfInBounds_toArray, List.set_cons_zero, List.set_cons_succ]
  refine takeN 11 ⟨some 135, _, _, _, _, _⟩ ?_
  try simp only [Act.put, List.setIfInBounds_toArray, List.set_cons_zero, List.set_cons_succ]
  refine takeN 12 ⟨some 136, _, _, _, _, _⟩ ?_
  try simp only [Act.put, List.setIfInBounds_toArray, List.set_cons_zero, List.set_cons_succ]
  refine takeN 13 ⟨some 137, _, _, _, _, _⟩ ?_
  try simp only [Act.put, List.setIfInBounds_toArray, List.set_cons_zero, List.set_cons_succ]
  refine takeN 14 ⟨some 138, _, _, _, _, _⟩ ?_
  try simp only [Act.put, List.setIfInBounds_toArray, List.set_cons_zero, List.set_cons_succ]
  refine takeN 15 ⟨some 139, _, _, _, _, _⟩ ?_
  try simp only [Act.put, List.setIfInBounds_toArray, List.set_cons_zero, List.set_cons_succ]
  refine takeY 16 ⟨some 140, _, _, _, _, _⟩ (v := ?_) ?_ ?_
  rotate_left
  · intro W hSw
    try dsimp only at hSw
    go_simp
    all_goals (with_reducible rfl)
  try simp only [Act.put, List.setIfInBounds_toArray, List.set_cons_zero, List.set_cons_succ]
  refine takeY 17 ⟨some 141, _, _, _, _, _⟩ (v := ?_) ?_ ?_
  rotate_left
  · intro W hSw
    try dsimp only at hSw
    go_simp
    all_goals (with_reducible rfl)
  try simp only [Act.put, List.setIfInBounds_toArray, List.set_cons_zero, List.set_cons_succ]
  refine takeN 18 ⟨some 142, _, _, _, _, _⟩ ?_
  try simp only [Act.put, List.setIfInBounds_toArray, List.set_cons_zero, List.set_cons_succ]
  refine takeN 19 ⟨some 143, _, _, _, _, _⟩ ?_
  try simp only [Act.put, List.setIfInBounds_toArray, List.set_cons_zero, List.set_cons_succ]
  refine takeN 20 ⟨some 144, _, _, _, _, _⟩ ?_
  try simp only [Act.put, List.setIfInBounds_toArray, List.set_cons_zero, List.set_cons_succ]
  refine takeN 21 ⟨some 145, _, _, _, _, _⟩ ?_
  try simp only [Act.put, List.setIfInBounds_toArray, List.set_cons_zero, List.set_cons_succ]
  refine takeY 22 ⟨some 146, _, _, _, _, _⟩ (v := ?_) ?_ ?_
  rotate_left
  · intro W hSw
    try dsimp only at hSw
    go_simp
    all_goals (with_reducible rfl)
  try simp only [Act.put, List.setIfInBounds_toArray, List.set_cons_zero, List.set_cons_succ]
  refine takeY 23 ⟨some 147, _, _, _, _, _⟩ (v := ?_) ?_ ?_
  rotate_left
  · intro W hSw
    try dsimp only at hSw
    go_simp
    all_goals (with_reducible rfl)
  try simp only [Act.put, List.setIfInBounds_toArray, List.set_cons_zero, List.set_cons_succ]
  refine takeN 24 ⟨some 148, _, _, _, _, _⟩ ?_
  try simp only [Act.put, List.setIfInBounds_toArray, List.set_cons_zero, List.set_cons_succ]
  refine takeN 25 ⟨some 149, _, _, _, _, _⟩ ?_
  try simp only [Act.put, List.setIfInBounds_toArray, List.set_cons_zero, List.set_cons_succ]
  refine takeN 26 ⟨some 150, _, _, _, _, _⟩ ?_
  try simp only [Act.put, List.setIfInBounds_toArray, List.set_cons_zero, List.set_cons_succ]
  refine takeY 27 ⟨some 151, _, _, _, _, _⟩ (v := ?_) ?_ ?_
  rotate_left
  · intro W hSw
    try dsimp only at hSw
    go_simp
    all_goals (with_reducible rfl)
  try simp only [Act.put, List.setIfInBounds_toArray, List.set_cons_zero, List.set_cons_succ]
  refine takeY 28 ⟨some 152, _, _, _, _, _⟩ (v := ?_) ?_ ?_
  rotate_left
  · intro W hSw
    try dsimp only at hSw
    go_simp
    all_goals (with_reducible rfl)
  try simp only [Act.put, List.setIfInBounds_toArray, List.set_cons_zero, List.set_cons_succ]
  refine takeN 29 ⟨some 153, _, _, _, _, _⟩ ?_
  try simp only [Act.put, List.setIfInBounds_toArray, List.set_cons_zero, List.set_cons_succ]
  refine takeN 30 ⟨some 154, _, _, _, _, _⟩ ?_
  try simp only [Act.put, List.setIfInBounds_toArray, List.set_cons_zero, List.set_cons_succ]
  refine takeN 31 ⟨some 155, _, _, _, _, _⟩ ?_
  try simp only [Act.put, List.setIfInBounds_toArray, List.set_cons_zero, List.set_cons_succ]
  refine takeY 32 ⟨some 156, _, _, _, _, _⟩ (v := ?_) ?_ ?_
  rotate_left
  · intro W hSw
    try dsimp only at hSw
    go_simp
    all_goals (with_reducible rfl)
  try simp only [Act.put, List.setIfInBounds_toArray, List.set_cons_zero, List.set_cons_succ]
  refine takeY 33 ⟨some 157, _, _, _, _, _⟩ (v := ?_) ?_ ?_
  rotate_left
  · intro W hSw
    try dsimp only at hSw
    go_simp
    all_goals (with_reducible rfl)
  try simp only [Act.put, List.setIfInBounds_toArray, List.set_cons_zero, List.set_cons_succ]
  refine takeN 34 ⟨some 158, _, _, _, _, _⟩ ?_
  try simp only [Act.put, List.setIfInBounds_toArray, List.set_cons_zero, List.set_cons_succ]
  refine takeN 35 ⟨some 159, _, _, _, _, _⟩ ?_
  try simp only [Act.put, List.setIfInBounds_toArray, List.set_cons_zero, List.set_cons_succ]
  refine takeN 36 ⟨some 160, _, _, _, _, _⟩ ?_
  try simp only [Act.put, List.setIfInBounds_toArray, List.set_cons_zero, List.set_cons_succ]
  refine takeN 37 ⟨some 161, _, _, _, _, _⟩ ?_
  try simp only [Act.put, List.setIfInBounds_toArray, List.set_cons_zero, List.set_cons_succ]
  refine takeN 38 ⟨some 162, _, _, _, _, _⟩ ?_
  try simp only [Act.put, List.setIfInBounds_toArray, List.set_cons_zero, List.set_cons_succ]
  refine takeY 39 ⟨some 163, _, _, _, _, _⟩ (v := ?_) ?_ ?_
  rotate_left
  · intro W hSw
    try dsimp only at hSw
    go_simp
    all_goals (with_reducible rfl)
  try simp only [Act.put, List.setIfInBounds_toArray, List.set_cons_zero, List.set_cons_succ]
  refine takeY 40 ⟨some 164, _, _, _, _, _⟩ (v := ?_) ?_ ?_
  rotate_left
  · intro W hSw
    try dsimp only at hSw
    go_simp
    all_goals (with_reducible rfl)
  try simp only [Act.put, List.setIfInBounds_toArray, List.set_cons_zero, List.set_cons_succ]
  refine takeN 41 ⟨some 165, _, _, _, _, _⟩ ?_
  try simp only [Act.put, List.setIfInBounds_toArray, List.set_cons_zero, List.set_cons_succ]
  refine takeN 42 ⟨some 166, _, _, _, _, _⟩ ?_
  try simp only [Act.put, List.setIfInBounds_toArray, List.set_cons_zero, List.set_cons_succ]
  refine takeY 43 ⟨some 167, _, _, _, _, _⟩ (v := ?_) ?_ ?_
  rotate_left
  · intro W hSw
    try dsimp only at hSw
    go_simp
    all_goals (with_reducible rfl)
  try simp only [Act.put, List.setIfInBounds_toArray, List.set_cons_zero, List.set_cons_succ]
  refine takeY 44 ⟨some 2, _, _, _, _, _⟩ (v := ?_) ?_ ?_
  rotate_left
  · intro W hSw
    try dsimp only at hSw
    go_simp
    all_goals (with_reducible rfl)
  try simp only [Act.put, List.setIfInBounds_toArray, List.set_cons_zero, List.set_cons_succ]
  refine wpAnyH_done (by kernel_rfl) ?_ _
  go_wp2
  go_ret
  exact ⟨rfl, HBX.out.below⟩

set_option maxRecDepth 20000 in
set_option maxHeartbeats 8000000 in
theorem fno_3b (w : World) (x : FV) (hx : FAt w w.heap.size x) (hi : FIn x) (hh : headB x.name x.h = true) (k1 : x.h.knd = 3) (hty : typedB x.h.typ = false) (ht0 : x.h.typ ≠ 0) : Calls Tryz.prog 20 #[x.val] w (Gave w (.bool false)) := by
  obtain ⟨W, hW⟩ : ∃ W, W = w.alloc (.cells #[.slice x.A x.name.length x.c, .int .i64 x.h.typ, .int .i64 x.h.knd, .int .i64 x.h.rank, .int .i64 x.h.got, .int .i64 x.h.ttl, .slice x.sA x.sp.length x.sc, .slice x.zA x.zone.length x.zc, .slice x.d.Ab x.soa.bytes.length x.d.cb, .slice x.d.Ah x.soa.host.length x.d.ch, .slice x.d.Am x.soa.mail.length x.d.cm, .slice x.d.An x.soa.nums.length x.d.cn, .slice x.d.At x.soa.texts.length x.d.ct] 36) := ⟨_, rfl⟩
  have hB : Below w.heap.size w W := by rw [hW]; exact (Below.refl _ _).alloc (Nat.le_refl _) _
  have HB := Lib.hid hB
  have HN := Lib.hid (fun W' (hb : Below w.heap.size w W') => ref_sound_wide x.A x.c w.heap.size x.name W' (hx.n.below hb) hi.n.1 hi.n.2)
  have HT := Lib.hid (fun W' => time_any x.h.got W')
  have HX := Lib.hid hx
  have HI := Lib.hid hi
  have HTY := Lib.hid (fun W' => typed_any x.h.typ W')
  rw [hty] at HTY
  have b1 : (x.h.knd == 1) = false := by rw [k1]; rfl
  have b2 : (x.h.knd == 2) = false := by rw [k1]; rfl
  have b3 : (x.h.knd == 3) = true := by rw [k1]; rfl
  have HHP := Lib.hid (headB_parts hh)
  have HK := Lib.hid k1
  clear hx hi hh hB hty k1
  subst hW
  obtain ⟨hn, h1, h2, ht, h3, h4⟩ := HHP.out
  rw [hn] at HN
  rw [ht] at HT
  have d1 : decide (x.h.rank < 1) = false := decide_eq_false (by omega)
  have d2 : decide (4 < x.h.rank) = false := decide_eq_false (by omega)
  have d3 : decide (x.h.ttl < 0) = false := decide_eq_false (by omega)
  have d4 : decide (604800 < x.h.ttl) = false := decide_eq_false (by omega)
  clear hn ht h1 h2 h3 h4 HHP
  have b0 : (x.h.typ == 0) = false := beq_eq_false_iff_ne.2 ht0
  clear ht0
  have HCS := Lib.hid (show ∀ W, FBoxes w x W → (W.cell? ⟨w.heap.size, 0, none⟩ = some (.slice x.A x.name.length x.c) ∧ W.cell? ⟨w.heap.size, 1, none⟩ = some (.int .i64 x.h.typ) ∧ W.cell? ⟨w.heap.size, 2, none⟩ = some (.int .i64 x.h.knd) ∧ W.cell? ⟨w.heap.size, 5, none⟩ = some (.int .i64 x.h.ttl) ∧ W.cell? ⟨w.heap.size, 6, none⟩ = some (.slice x.sA x.sp.length x.sc) ∧ W.cell? ⟨w.heap.size, 7, none⟩ = some (.slice x.zA x.zone.length x.zc)) ∧ (W.cell? ⟨w.heap.size + 1, 0, none⟩ = some (.slice x.d.Ab x.soa.bytes.length x.d.cb) ∧ W.cell? ⟨w.heap.size + 1, 1, none⟩ = some (.slice x.d.Ah x.soa.host.length x.d.ch) ∧ W.cell? ⟨w.heap.size + 1, 2, none⟩ = some (.slice x.d.Am x.soa.mail.length x.d.cm) ∧ W.cell? ⟨w.heap.size + 1, 3, none⟩ = some (.slice x.d.An x.soa.nums.length x.d.cn) ∧ W.cell? ⟨w.heap.size + 1, 4, none⟩ = some (.slice x.d.At x.soa.texts.length x.d.ct)) from fun W h => ⟨⟨h.f.cell 0, h.f.cell 1, h.f.cell 2, h.f.cell 5, h.f.cell 6, h.f.cell 7⟩, ⟨h.d.cell 0, h.d.cell 1, h.d.cell 2, h.d.cell 3, h.d.cell 4⟩⟩)
  have HBX := Lib.hid (FBoxes.made w x)
  go_enter Tryz.func20, Tryz.ntmps20
  go_wp2_with (first
    | (go_at_call 24; refine (HN.out _ HB.out).mono ?_; rintro e w1 ⟨rfl, rfl⟩)
    | (go_at_call 32; refine (HT.out _).mono ?_; rintro e w1 ⟨rfl, rfl⟩))
  refine wp_region_held_drew (S := fun W => (W.cell? ⟨w.heap.size, 0, none⟩ = some (.slice x.A x.name.length x.c) ∧ W.cell? ⟨w.heap.size, 1, none⟩ = some (.int .i64 x.h.typ) ∧ W.cell? ⟨w.heap.size, 2, none⟩ = some (.int .i64 x.h.knd) ∧ W.cell? ⟨w.heap.size, 5, none⟩ = some (.int .i64 x.h.ttl) ∧ W.cell? ⟨w.heap.size, 6, none⟩ = some (.slice x.sA x.sp.length x.sc) ∧ W.cell? ⟨w.heap.size, 7, none⟩ = some (.slice x.zA x.zone.length x.zc)) ∧ (W.cell? ⟨w.heap.size + 1, 0, none⟩ = some (.slice x.d.Ab x.soa.bytes.length x.d.cb) ∧ W.cell? ⟨w.heap.size + 1, 1, none⟩ = some (.slice x.d.Ah x.soa.host.length x.d.ch) ∧ W.cell? ⟨w.heap.size + 1, 2, none⟩ = some (.slice x.d.Am x.soa.mail.length x.d.cm) ∧ W.cell? ⟨w.heap.size + 1, 3, none⟩ = some (.slice x.d.An x.soa.nums.length x.d.cn) ∧ W.cell? ⟨w.heap.size + 1, 4, none⟩ = some (.slice x.d.At x.soa.texts.length x.d.ct))) (by kernel_rfl) (by exact HCS.out _ HBX.out) (fun hHeld => ?_)
  refine takeY 0 ⟨some 124, _, _, _, _, _⟩ (v := ?_) ?_ ?_
  rotate_left
  · intro W hSw
    try dsimp only at hSw
    go_simp
    all_goals (with_reducible rfl)
  try simp only [Act.put, List.setIfInBounds_toArray, List.set_cons_zero, List.set_cons_succ]
  refine takeY 1 ⟨some 125, _, _, _, _, _⟩ (v := ?_) ?_ ?_
  rotate_left
  · intro W hSw
    try dsimp only at hSw
    go_simp
    all_goals (with_reducible rfl)
  try simp only [Act.put, List.setIfInBounds_toArray, List.set_cons_zero, List.set_cons_succ]
  refine takeY 2 ⟨some 126, _, _, _, _, _⟩ (v := ?_) ?_ ?_
  rotate_left
  · intro W hSw
    try dsimp only at hSw
    go_simp
    all_goals (with_reducible rfl)
  try simp only [Act.put, List.setIfInBounds_toArray, List.set_cons_zero, List.set_cons_succ]
  refine takeY 3 ⟨some 127, _, _, _, _, _⟩ (v := ?_) ?_ ?_
  rotate_left
  · intro W hSw
    try dsimp only at hSw
    go_simp
    all_goals (with_reducible rfl)
  try simp only [Act.put, List.setIfInBounds_toArray, List.set_cons_zero, List.set_cons_succ]
  refine takeY 4 ⟨some 128, _, _, _, _, _⟩ (v := ?_) ?_ ?_
  rotate_left
  · intro W hSw
    try dsimp only at hSw
    go_simp
    all_goals (with_reducible rfl)
  try simp only [Act.put, List.setIfInBounds_toArray, List.set_cons_zero, List.set_cons_succ]
  refine wpAnyH_ready (rs := [5]) (by kernel_rfl) (by simp) ?_
  refine AllReadyH.cons (o := { dst := some 129, op := Go.Op.call { callee := Go.Callee.value (Go.Operand.func 41), args := #[Go.Operand.tmp 128], argTypes := #[3] }, type := 4, pos := "ref.go:78", after := #[{ on := 4, ground := Go.Ground.data }], guard := none }) rfl (fun K hK => ?_) AllReadyH.nil
  go_simp
  refine (HTY.out _).mono ?_
  rintro e w1 ⟨rfl, rfl⟩
  refine hK.out _ _ (by exact hHeld) (fun hHeld2 => ?_)
  clear hK K hHeld
  have hHeld := hHeld2
  clear hHeld2
  try simp only [Act.put, List.setIfInBounds_toArray, List.set_cons_zero, List.set_cons_succ]
  refine takeY 6 ⟨some 130, _, _, _, _, _⟩ (v := ?_) ?_ ?_
  rotate_left
  · intro W hSw
    try dsimp only at hSw
    go_simp
    all_goals (with_reducible rfl)
  try simp only [Act.put, List.setIfInBounds_toArray, List.set_cons_zero, List.set_cons_succ]
  refine takeY 7 ⟨some 131, _, _, _, _, _⟩ (v := ?_) ?_ ?_
  rotate_left
  · intro W hSw
    try dsimp only at hSw
    go_simp
    all_goals (with_reducible rfl)
  try simp only [Act.put, List.setIfInBounds_toArray, List.set_cons_zero, List.set_cons_succ]
  refine takeY 8 ⟨some 132, _, _, _, _, _⟩ (v := ?_) ?_ ?_
  rotate_left
  · intro W hSw
    try dsimp only at hSw
    go_simp
    all_goals (with_reducible rfl)
  try simp only [Act.put, List.setIfInBounds_toArray, List.set_cons_zero, List.set_cons_succ]
  refine takeY 9 ⟨some 133, _, _, _, _, _⟩ (v := ?_) ?_ ?_
  rotate_left
  · intro W hSw
    try dsimp only at hSw
    go_simp
    all_goals (with_reducible rfl)
  try simp only [Act.put, List.setIfInBounds_toArray, List.set_cons_zero, List.set_cons_succ]
  refine takeY 10 ⟨some 134, _, _, _, _, _⟩ (v := ?_) ?_ ?_
  rotate_left
  · intro W hSw
    try dsimp only at hSw
    go_simp
    all_goals (with_reducible rfl)
  try simp only [Act.put, List.setIfInBounds_toArray, List.set_cons_zero, List.set_cons_succ]
  refine takeY 11 ⟨some 135, _, _, _, _, _⟩ (v := ?_) ?_ ?_
  rotate_left
  · intro W hSw
    try dsimp only at hSw
    go_simp
    all_goals (with_reducible rfl)
  try simp only [Act.put, List.setIfInBounds_toArray, List.set_cons_zero, List.set_cons_succ]
  refine takeY 12 ⟨some 136, _, _, _, _, _⟩ (v := ?_) ?_ ?_
  rotate_left
  · intro W hSw
    try dsimp only at hSw
    go_simp
    all_goals (with_reducible rfl)
  try simp only [Act.put, List.setIfInBounds_toArray, List.set_cons_zero, List.set_cons_succ]
  refine takeY 13 ⟨some 137, _, _, _, _, _⟩ (v := ?_) ?_ ?_
  rotate_left
  · intro W hSw
    try dsimp only at hSw
    go_simp
    all_goals (with_reducible rfl)
  try simp only [Act.put, List.setIfInBounds_toArray, List.set_cons_zero, List.set_cons_succ]
  refine takeY 14 ⟨some 138, _, _, _, _, _⟩ (v := ?_) ?_ ?_
  rotate_left
  · intro W hSw
    try dsimp only at hSw
    go_simp
    all_goals (with_reducible rfl)
  try simp only [Act.put, List.setIfInBounds_toArray, List.set_cons_zero, List.set_cons_succ]
  refine takeY 15 ⟨some 139, _, _, _, _, _⟩ (v := ?_) ?_ ?_
  rotate_left
  · intro W hSw
    try dsimp only at hSw
    go_simp
    all_goals (with_reducible rfl)
  try simp only [Act.put, List.setIfInBounds_toArray, List.set_cons_zero, List.set_cons_succ]
  refine takeY 16 ⟨some 140, _, _, _, _, _⟩ (v := ?_) ?_ ?_
  rotate_left
  · intro W hSw
    try dsimp only at hSw
    go_simp
    all_goals (with_reducible rfl)
  try simp only [Act.put, List.setIfInBounds_toArray, List.set_cons_zero, List.set_cons_succ]
  refine takeY 17 ⟨some 141, _, _, _, _, _⟩ (v := ?_) ?_ ?_
  rotate_left
  · intro W hSw
    try dsimp only at hSw
    go_simp
    all_goals (with_reducible rfl)
  try simp only [Act.put, List.setIfInBounds_toArray, List.set_cons_zero, List.set_cons_succ]
  refine takeN 18 ⟨some 142, _, _, _, _, _⟩ ?_
  try simp only [Act.put, List.setIfInBounds_toArray, List.set_cons_zero, List.set_cons_succ]
  refine takeN 19 ⟨some 143, _, _, _, _, _⟩ ?_
  try simp only [Act.put, List.setIfInBounds_toArray, List.set_cons_zero, List.set_cons_succ]
  refine takeN 20 ⟨some 144, _, _, _, _, _⟩ ?_
  try simp only [Act.put, List.setIfInBounds_toArray, List.set_cons_zero, List.set_cons_succ]
  refine takeN 21 ⟨some 145, _, _, _, _, _⟩ ?_
  try simp only [Act.put, List.setIfInBounds_toArray, List.set_cons_zero, List.set_cons_succ]
  refine takeY 22 ⟨some 146, _, _, _, _, _⟩ (v := ?_) ?_ ?_
  rotate_left
  · intro W hSw
    try dsimp only at hSw
    go_simp
    all_goals (with_reducible rfl)
  try simp only [Act.put, List.setIfInBounds_toArray, List.set_cons_zero, List.set_cons_succ]
  refine takeY 23 ⟨some 147, _, _, _, _, _⟩ (v := ?_) ?_ ?_
  rotate_left
  · intro W hSw
    try dsimp only at hSw
    go_simp
    all_goals (with_reducible rfl)
  try simp only [Act.put, List.setIfInBounds_toArray, List.set_cons_zero, List.set_cons_succ]
  refine takeN 24 ⟨some 148, _, _, _, _, _⟩ ?_
  try simp only [Act.put, List.setIfInBounds_toArray, List.set_cons_zero, List.set_cons_succ]
  refine takeN 25 ⟨some 149, _, _, _, _, _⟩ ?_
  try simp only [Act.put, List.setIfInBounds_toArray, List.set_cons_zero, List.set_cons_succ]
  refine takeN 26 ⟨some 150, _, _, _, _, _⟩ ?_
  try simp only [Act.put, List.setIfInBounds_toArray, List.set_cons_zero, List.set_cons_succ]
  refine takeY 27 ⟨some 151, _, _, _, _, _⟩ (v := ?_) ?_ ?_
  rotate_left
  · intro W hSw
    try dsimp only at hSw
    go_simp
    all_goals (with_reducible rfl)
  try simp only [Act.put, List.setIfInBounds_toArray, List.set_cons_zero, List.set_cons_succ]
  refine takeY 28 ⟨some 152, _, _, _, _, _⟩ (v := ?_) ?_ ?_
  rotate_left
  · intro W hSw
    try dsimp only at hSw
    go_simp
    all_goals (with_reducible rfl)
  try simp only [Act.put, List.setIfInBounds_toArray, List.set_cons_zero, List.set_cons_succ]
  refine takeN 29 ⟨some 153, _, _, _, _, _⟩ ?_
  try simp only [Act.put, List.setIfInBounds_toArray, List.set_cons_zero, List.set_cons_succ]
  refine takeN 30 ⟨some 154, _, _, _, _, _⟩ ?_
  try simp only [Act.put, List.setIfInBounds_toArray, List.set_cons_zero, List.set_cons_succ]
  refine takeN 31 ⟨some 155, _, _, _, _, _⟩ ?_
  try simp only [Act.put, List.setIfInBounds_toArray, List.set_cons_zero, List.set_cons_succ]
  refine takeY 32 ⟨some 156, _, _, _, _, _⟩ (v := ?_) ?_ ?_
  rotate_left
  · intro W hSw
    try dsimp only at hSw
    go_simp
    all_goals (with_reducible rfl)
  try simp only [Act.put, List.setIfInBounds_toArray, List.set_cons_zero, List.set_cons_succ]
  refine takeY 33 ⟨some 157, _, _, _, _, _⟩ (v := ?_) ?_ ?_
  rotate_left
  · intro W hSw
    try dsimp only at hSw
    go_simp
    all_goals (with_reducible rfl)
  try simp only [Act.put, List.setIfInBounds_toArray, List.set_cons_zero, List.set_cons_succ]
  refine takeN 34 ⟨some 158, _, _, _, _, _⟩ ?_
  try simp only [Act.put, List.setIfInBounds_toArray, List.set_cons_zero, List.set_cons_succ]
  refine takeN 35 ⟨some 159, _, _, _, _, _⟩ ?_
  try simp only [Act.put, List.setIfInBounds_toArray, List.set_cons_zero, List.set_cons_succ]
  refine takeN 36 ⟨some 160, _, _, _, _, _⟩ ?_
  try simp only [Act.put, List.setIfInBounds_toArray, List.set_cons_zero, List.set_cons_succ]
  refine takeN 37 ⟨some 161, _, _, _, _, _⟩ ?_
  try simp only [Act.put, List.setIfInBounds_toArray, List.set_cons_zero, List.set_cons_succ]
  refine takeN 38 ⟨some 162, _, _, _, _, _⟩ ?_
  try simp only [Act.put, List.setIfInBounds_toArray, List.set_cons_zero, List.set_cons_succ]
  refine takeY 39 ⟨some 163, _, _, _, _, _⟩ (v := ?_) ?_ ?_
  rotate_left
  · intro W hSw
    try dsimp only at hSw
    go_simp
    all_goals (with_reducible rfl)
  try simp only [Act.put, List.setIfInBounds_toArray, List.set_cons_zero, List.set_cons_succ]
  refine takeY 40 ⟨some 164, _, _, _, _, _⟩ (v := ?_) ?_ ?_
  rotate_left
  · intro W hSw
    try dsimp only at hSw
    go_simp
    all_goals (with_reducible rfl)
  try simp only [Act.put, List.setIfInBounds_toArray, List.set_cons_zero, List.set_cons_succ]
  refine takeN 41 ⟨some 165, _, _, _, _, _⟩ ?_
  try simp only [Act.put, List.setIfInBounds_toArray, List.set_cons_zero, List.set_cons_succ]
  refine takeN 42 ⟨some 166, _, _, _, _, _⟩ ?_
  try simp only [Act.put, List.setIfInBounds_toArray, List.set_cons_zero, List.set_cons_succ]
  refine takeY 43 ⟨some 167, _, _, _, _, _⟩ (v := ?_) ?_ ?_
  rotate_left
  · intro W hSw
    try dsimp only at hSw
    go_simp
    all_goals (with_reducible rfl)
  try simp only [Act.put, List.setIfInBounds_toArray, List.set_cons_zero, List.set_cons_succ]
  refine takeY 44 ⟨some 2, _, _, _, _, _⟩ (v := ?_) ?_ ?_
  rotate_left
  · intro W hSw
    try dsimp only at hSw
    go_simp
    all_goals (with_reducible rfl)
  try simp only [Act.put, List.setIfInBounds_toArray, List.set_cons_zero, List.set_cons_succ]
  refine wpAnyH_done (by kernel_rfl) ?_ _
  go_wp2
  go_ret
  exact ⟨rfl, HBX.out.below⟩

set_option maxRecDepth 20000 in
set_option maxHeartbeats 8000000 in
theorem fno_2c (w : World) (x : FV) (hx : FAt w w.heap.size x) (hi : FIn x) (hh : headB x.name x.h = true) (k1 : x.h.knd = 2) (hty : typedB x.h.typ = true) (hset : x.sp.length ≠ 0) : Calls Tryz.prog 20 #[x.val] w (Gave w (.bool false)) := by
  obtain ⟨W, hW⟩ : ∃ W, W = w.alloc (.cells #[.slice x.A x.name.length x.c, .int .i64 x.h.typ, .int .i64 x.h.knd, .int .i64 x.h.rank, .int .i64 x.h.got, .int .i64 x.h.ttl, .slice x.sA x.sp.length x.sc, .slice x.zA x.zone.length x.zc, .slice x.d.Ab x.soa.bytes.length x.d.cb, .slice x.d.Ah x.soa.host.length x.d.ch, .slice x.d.Am x.soa.mail.length x.d.cm, .slice x.d.An x.soa.nums.length x.d.cn, .slice x.d.At x.soa.texts.length x.d.ct] 36) := ⟨_, rfl⟩
  have hB : Below w.heap.size w W := by rw [hW]; exact (Below.refl _ _).alloc (Nat.le_refl _) _
  have HB := Lib.hid hB
  have HN := Lib.hid (fun W' (hb : Below w.heap.size w W') => ref_sound_wide x.A x.c w.heap.size x.name W' (hx.n.below hb) hi.n.1 hi.n.2)
  have HT := Lib.hid (fun W' => time_any x.h.got W')
  have HX := Lib.hid hx
  have HI := Lib.hid hi
  have HTY := Lib.hid (fun W' => typed_any x.h.typ W')
  rw [hty] at HTY
  have b1 : (x.h.knd == 1) = false := by rw [k1]; rfl
  have b2 : (x.h.knd == 2) = true := by rw [k1]; rfl
  have b3 : (x.h.knd == 3) = false := by rw [k1]; rfl
  have HHP := Lib.hid (headB_parts hh)
  have HK := Lib.hid k1
  clear hx hi hh hB hty k1
  subst hW
  obtain ⟨hn, h1, h2, ht, h3, h4⟩ := HHP.out
  rw [hn] at HN
  rw [ht] at HT
  have d1 : decide (x.h.rank < 1) = false := decide_eq_false (by omega)
  have d2 : decide (4 < x.h.rank) = false := decide_eq_false (by omega)
  have d3 : decide (x.h.ttl < 0) = false := decide_eq_false (by omega)
  have d4 : decide (604800 < x.h.ttl) = false := decide_eq_false (by omega)
  clear hn ht h1 h2 h3 h4 HHP
  have b6 : ((x.sp.length : Int) == 0) = false := beq_eq_false_iff_ne.2 (by omega)
  clear hset
  have HCS := Lib.hid (show ∀ W, FBoxes w x W → (W.cell? ⟨w.heap.size, 0, none⟩ = some (.slice x.A x.name.length x.c) ∧ W.cell? ⟨w.heap.size, 1, none⟩ = some (.int .i64 x.h.typ) ∧ W.cell? ⟨w.heap.size, 2, none⟩ = some (.int .i64 x.h.knd) ∧ W.cell? ⟨w.heap.size, 5, none⟩ = some (.int .i64 x.h.ttl) ∧ W.cell? ⟨w.heap.size, 6, none⟩ = some (.slice x.sA x.sp.length x.sc) ∧ W.cell? ⟨w.heap.size, 7, none⟩ = some (.slice x.zA x.zone.length x.zc)) ∧ (W.cell? ⟨w.heap.size + 1, 0, none⟩ = some (.slice x.d.Ab x.soa.bytes.length x.d.cb) ∧ W.cell? ⟨w.heap.size + 1, 1, none⟩ = some (.slice x.d.Ah x.soa.host.length x.d.ch) ∧ W.cell? ⟨w.heap.size + 1, 2, none⟩ = some (.slice x.d.Am x.soa.mail.length x.d.cm) ∧ W.cell? ⟨w.heap.size + 1, 3, none⟩ = some (.slice x.d.An x.soa.nums.length x.d.cn) ∧ W.cell? ⟨w.heap.size + 1, 4, none⟩ = some (.slice x.d.At x.soa.texts.length x.d.ct)) from fun W h => ⟨⟨h.f.cell 0, h.f.cell 1, h.f.cell 2, h.f.cell 5, h.f.cell 6, h.f.cell 7⟩, ⟨h.d.cell 0, h.d.cell 1, h.d.cell 2, h.d.cell 3, h.d.cell 4⟩⟩)
  have HBX := Lib.hid (FBoxes.made w x)
  go_enter Tryz.func20, Tryz.ntmps20
  go_wp2_with (first
    | (go_at_call 24; refine (HN.out _ HB.out).mono ?_; rintro e w1 ⟨rfl, rfl⟩)
    | (go_at_call 32; refine (HT.out _).mono ?_; rintro e w1 ⟨rfl, rfl⟩))
  refine wp_region_held_drew (S := fun W => (W.cell? ⟨w.heap.size, 0, none⟩ = some (.slice x.A x.name.length x.c) ∧ W.cell? ⟨w.heap.size, 1, none⟩ = some (.int .i64 x.h.typ) ∧ W.cell? ⟨w.heap.size, 2, none⟩ = some (.int .i64 x.h.knd) ∧ W.cell? ⟨w.heap.size, 5, none⟩ = some (.int .i64 x.h.ttl) ∧ W.cell? ⟨w.heap.size, 6, none⟩ = some (.slice x.sA x.sp.length x.sc) ∧ W.cell? ⟨w.heap.size, 7, none⟩ = some (.slice x.zA x.zone.length x.zc)) ∧ (W.cell? ⟨w.heap.size + 1, 0, none⟩ = some (.slice x.d.Ab x.soa.bytes.length x.d.cb) ∧ W.cell? ⟨w.heap.size + 1, 1, none⟩ = some (.slice x.d.Ah x.soa.host.length x.d.ch) ∧ W.cell? ⟨w.heap.size + 1, 2, none⟩ = some (.slice x.d.Am x.soa.mail.length x.d.cm) ∧ W.cell? ⟨w.heap.size + 1, 3, none⟩ = some (.slice x.d.An x.soa.nums.length x.d.cn) ∧ W.cell? ⟨w.heap.size + 1, 4, none⟩ = some (.slice x.d.At x.soa.texts.length x.d.ct))) (by kernel_rfl) (by exact HCS.out _ HBX.out) (fun hHeld => ?_)
  refine takeY 0 ⟨some 124, _, _, _, _, _⟩ (v := ?_) ?_ ?_
  rotate_left
  · intro W hSw
    try dsimp only at hSw
    go_simp
    all_goals (with_reducible rfl)
  try simp only [Act.put, List.setIfInBounds_toArray, List.set_cons_zero, List.set_cons_succ]
  refine takeY 1 ⟨some 125, _, _, _, _, _⟩ (v := ?_) ?_ ?_
  rotate_left
  · intro W hSw
    try dsimp only at hSw
    go_simp
    all_goals (with_reducible rfl)
  try simp only [Act.put, List.setIfInBounds_toArray, List.set_cons_zero, List.set_cons_succ]
  refine takeY 2 ⟨some 126, _, _, _, _, _⟩ (v := ?_) ?_ ?_
  rotate_left
  · intro W hSw
    try dsimp only at hSw
    go_simp
    all_goals (with_reducible rfl)
  try simp only [Act.put, List.setIfInBounds_toArray, List.set_cons_zero, List.set_cons_succ]
  refine takeY 3 ⟨some 127, _, _, _, _, _⟩ (v := ?_) ?_ ?_
  rotate_left
  · intro W hSw
    try dsimp only at hSw
    go_simp
    all_goals (with_reducible rfl)
  try simp only [Act.put, List.setIfInBounds_toArray, List.set_cons_zero, List.set_cons_succ]
  refine takeY 4 ⟨some 128, _, _, _, _, _⟩ (v := ?_) ?_ ?_
  rotate_left
  · intro W hSw
    try dsimp only at hSw
    go_simp
    all_goals (with_reducible rfl)
  try simp only [Act.put, List.setIfInBounds_toArray, List.set_cons_zero, List.set_cons_succ]
  refine wpAnyH_ready (rs := [5]) (by kernel_rfl) (by simp) ?_
  refine AllReadyH.cons (o := { dst := some 129, op := Go.Op.call { callee := Go.Callee.value (Go.Operand.func 41), args := #[Go.Operand.tmp 128], argTypes := #[3] }, type := 4, pos := "ref.go:78", after := #[{ on := 4, ground := Go.Ground.data }], guard := none }) rfl (fun K hK => ?_) AllReadyH.nil
  go_simp
  refine (HTY.out _).mono ?_
  rintro e w1 ⟨rfl, rfl⟩
  refine hK.out _ _ (by exact hHeld) (fun hHeld2 => ?_)
  clear hK K hHeld
  have hHeld := hHeld2
  clear hHeld2
  try simp only [Act.put, List.setIfInBounds_toArray, List.set_cons_zero, List.set_cons_succ]
  refine takeY 6 ⟨some 130, _, _, _, _, _⟩ (v := ?_) ?_ ?_
  rotate_left
  · intro W hSw
    try dsimp only at hSw
    go_simp
    all_goals (with_reducible rfl)
  try simp only [Act.put, List.setIfInBounds_toArray, List.set_cons_zero, List.set_cons_succ]
  refine takeY 7 ⟨some 131, _, _, _, _, _⟩ (v := ?_) ?_ ?_
  rotate_left
  · intro W hSw
    try dsimp only at hSw
    go_simp
    all_goals (with_reducible rfl)
  try simp only [Act.put, List.setIfInBounds_toArray, List.set_cons_zero, List.set_cons_succ]
  refine takeY 8 ⟨some 132, _, _, _, _, _⟩ (v := ?_) ?_ ?_
  rotate_left
  · intro W hSw
    try dsimp only at hSw
    go_simp
    all_goals (with_reducible rfl)
  try simp only [Act.put, List.setIfInBounds_toArray, List.set_cons_zero, List.set_cons_succ]
  refine takeY 9 ⟨some 133, _, _, _, _, _⟩ (v := ?_) ?_ ?_
  rotate_left
  · intro W hSw
    try dsimp only at hSw
    go_simp
    all_goals (with_reducible rfl)
  try simp only [Act.put, List.setIfInBounds_toArray, List.set_cons_zero, List.set_cons_succ]
  refine takeY 10 ⟨some 134, _, _, _, _, _⟩ (v := ?_) ?_ ?_
  rotate_left
  · intro W hSw
    try dsimp only at hSw
    go_simp
    all_goals (with_reducible rfl)
  try simp only [Act.put, List.setIfInBounds_toArray, List.set_cons_zero, List.set_cons_succ]
  refine takeY 11 ⟨some 135, _, _, _, _, _⟩ (v := ?_) ?_ ?_
  rotate_left
  · intro W hSw
    try dsimp only at hSw
    go_simp
    all_goals (with_reducible rfl)
  try simp only [Act.put, List.setIfInBounds_toArray, List.set_cons_zero, List.set_cons_succ]
  refine takeN 12 ⟨some 136, _, _, _, _, _⟩ ?_
  try simp only [Act.put, List.setIfInBounds_toArray, List.set_cons_zero, List.set_cons_succ]
  refine takeN 13 ⟨some 137, _, _, _, _, _⟩ ?_
  try simp only [Act.put, List.setIfInBounds_toArray, List.set_cons_zero, List.set_cons_succ]
  refine takeN 14 ⟨some 138, _, _, _, _, _⟩ ?_
  try simp only [Act.put, List.setIfInBounds_toArray, List.set_cons_zero, List.set_cons_succ]
  refine takeY 15 ⟨some 139, _, _, _, _, _⟩ (v := ?_) ?_ ?_
  rotate_left
  · intro W hSw
    try dsimp only at hSw
    go_simp
    all_goals (with_reducible rfl)
  try simp only [Act.put, List.setIfInBounds_toArray, List.set_cons_zero, List.set_cons_succ]
  refine takeY 16 ⟨some 140, _, _, _, _, _⟩ (v := ?_) ?_ ?_
  rotate_left
  · intro W hSw
    try dsimp only at hSw
    go_simp
    all_goals (with_reducible rfl)
  try simp only [Act.put, List.setIfInBounds_toArray, List.set_cons_zero, List.set_cons_succ]
  refine takeY 17 ⟨some 141, _, _, _, _, _⟩ (v := ?_) ?_ ?_
  rotate_left
  · intro W hSw
    try dsimp only at hSw
    go_simp
    all_goals (with_reducible rfl)
  try simp only [Act.put, List.setIfInBounds_toArray, List.set_cons_zero, List.set_cons_succ]
  refine takeY 18 ⟨some 142, _, _, _, _, _⟩ (v := ?_) ?_ ?_
  rotate_left
  · intro W hSw
    try dsimp only at hSw
    go_simp
    all_goals (with_reducible rfl)
  try simp only [Act.put, List.setIfInBounds_toArray, List.set_cons_zero, List.set_cons_succ]
  refine takeY 19 ⟨some 143, _, _, _, _, _⟩ (v := ?_) ?_ ?_
  rotate_left
  · intro W hSw
    try dsimp only at hSw
    go_simp
    all_goals (with_reducible rfl)
  try simp only [Act.put, List.setIfInBounds_toArray, List.set_cons_zero, List.set_cons_succ]
  refine takeY 20 ⟨some 144, _, _, _, _, _⟩ (v := ?_) ?_ ?_
  rotate_left
  · intro W hSw
    try dsimp only at hSw
    go_simp
    all_goals (with_reducible rfl)
  try simp only [Act.put, List.setIfInBounds_toArray, List.set_cons_zero, List.set_cons_succ]
  refine takeY 21 ⟨some 145, _, _, _, _, _⟩ (v := ?_) ?_ ?_
  rotate_left
  · intro W hSw
    try dsimp only at hSw
    go_simp
    all_goals (with_reducible rfl)
  try simp only [Act.put, List.setIfInBounds_toArray, List.set_cons_zero, List.set_cons_succ]
  refine takeY 22 ⟨some 146, _, _, _, _, _⟩ (v := ?_) ?_ ?_
  rotate_left
  · intro W hSw
    try dsimp only at hSw
    go_simp
    all_goals (with_reducible rfl)
  try simp only [Act.put, List.setIfInBounds_toArray, List.set_cons_zero, List.set_cons_succ]
  refine takeY 23 ⟨some 147, _, _, _, _, _⟩ (v := ?_) ?_ ?_
  rotate_left
  · intro W hSw
    try dsimp only at hSw
    go_simp
    all_goals (with_reducible rfl)
  try simp only [Act.put, List.setIfInBounds_toArray, List.set_cons_zero, List.set_cons_succ]
  refine takeN 24 ⟨some 148, _, _, _, _, _⟩ ?_
  try simp only [Act.put, List.setIfInBounds_toArray, List.set_cons_zero, List.set_cons_succ]
  refine takeN 25 ⟨some 149, _, _, _, _, _⟩ ?_
  try simp only [Act.put, List.setIfInBounds_toArray, List.set_cons_zero, List.set_cons_succ]
  refine takeN 26 ⟨some 150, _, _, _, _, _⟩ ?_
  try simp only [Act.put, List.setIfInBounds_toArray, List.set_cons_zero, List.set_cons_succ]
  refine takeY 27 ⟨some 151, _, _, _, _, _⟩ (v := ?_) ?_ ?_
  rotate_left
  · intro W hSw
    try dsimp only at hSw
    go_simp
    all_goals (with_reducible rfl)
  try simp only [Act.put, List.setIfInBounds_toArray, List.set_cons_zero, List.set_cons_succ]
  refine takeY 28 ⟨some 152, _, _, _, _, _⟩ (v := ?_) ?_ ?_
  rotate_left
  · intro W hSw
    try dsimp only at hSw
    go_simp
    all_goals (with_reducible rfl)
  try simp only [Act.put, List.setIfInBounds_toArray, List.set_cons_zero, List.set_cons_succ]
  refine takeN 29 ⟨some 153, _, _, _, _, _⟩ ?_
  try simp only [Act.put, List.setIfInBounds_toArray, List.set_cons_zero, List.set_cons_succ]
  refine takeN 30 ⟨some 154, _, _, _, _, _⟩ ?_
  try simp only [Act.put, List.setIfInBounds_toArray, List.set_cons_zero, List.set_cons_succ]
  refine takeN 31 ⟨some 155, _, _, _, _, _⟩ ?_
  try simp only [Act.put, List.setIfInBounds_toArray, List.set_cons_zero, List.set_cons_succ]
  refine takeY 32 ⟨some 156, _, _, _, _, _⟩ (v := ?_) ?_ ?_
  rotate_left
  · intro W hSw
    try dsimp only at hSw
    go_simp
    all_goals (with_reducible rfl)
  try simp only [Act.put, List.setIfInBounds_toArray, List.set_cons_zero, List.set_cons_succ]
  refine takeY 33 ⟨some 157, _, _, _, _, _⟩ (v := ?_) ?_ ?_
  rotate_left
  · intro W hSw
    try dsimp only at hSw
    go_simp
    all_goals (with_reducible rfl)
  try simp only [Act.put, List.setIfInBounds_toArray, List.set_cons_zero, List.set_cons_succ]
  refine takeN 34 ⟨some 158, _, _, _, _, _⟩ ?_
  try simp only [Act.put, List.setIfInBounds_toArray, List.set_cons_zero, List.set_cons_succ]
  refine takeN 35 ⟨some 159, _, _, _, _, _⟩ ?_
  try simp only [Act.put, List.setIfInBounds_toArray, List.set_cons_zero, List.set_cons_succ]
  refine takeN 36 ⟨some 160, _, _, _, _, _⟩ ?_
  try simp only [Act.put, List.setIfInBounds_toArray, List.set_cons_zero, List.set_cons_succ]
  refine takeN 37 ⟨some 161, _, _, _, _, _⟩ ?_
  try simp only [Act.put, List.setIfInBounds_toArray, List.set_cons_zero, List.set_cons_succ]
  refine takeN 38 ⟨some 162, _, _, _, _, _⟩ ?_
  try simp only [Act.put, List.setIfInBounds_toArray, List.set_cons_zero, List.set_cons_succ]
  refine takeY 39 ⟨some 163, _, _, _, _, _⟩ (v := ?_) ?_ ?_
  rotate_left
  · intro W hSw
    try dsimp only at hSw
    go_simp
    all_goals (with_reducible rfl)
  try simp only [Act.put, List.setIfInBounds_toArray, List.set_cons_zero, List.set_cons_succ]
  refine takeY 40 ⟨some 164, _, _, _, _, _⟩ (v := ?_) ?_ ?_
  rotate_left
  · intro W hSw
    try dsimp only at hSw
    go_simp
    all_goals (with_reducible rfl)
  try simp only [Act.put, List.setIfInBounds_toArray, List.set_cons_zero, List.set_cons_succ]
  refine takeN 41 ⟨some 165, _, _, _, _, _⟩ ?_
  try simp only [Act.put, List.setIfInBounds_toArray, List.set_cons_zero, List.set_cons_succ]
  refine takeN 42 ⟨some 166, _, _, _, _, _⟩ ?_
  try simp only [Act.put, List.setIfInBounds_toArray, List.set_cons_zero, List.set_cons_succ]
  refine takeY 43 ⟨some 167, _, _, _, _, _⟩ (v := ?_) ?_ ?_
  rotate_left
  · intro W hSw
    try dsimp only at hSw
    go_simp
    all_goals (with_reducible rfl)
  try simp only [Act.put, List.setIfInBounds_toArray, List.set_cons_zero, List.set_cons_succ]
  refine takeY 44 ⟨some 2, _, _, _, _, _⟩ (v := ?_) ?_ ?_
  rotate_left
  · intro W hSw
    try dsimp only at hSw
    go_simp
    all_goals (with_reducible rfl)
  try simp only [Act.put, List.setIfInBounds_toArray, List.set_cons_zero, List.set_cons_succ]
  refine wpAnyH_done (by kernel_rfl) ?_ _
  go_wp2
  go_ret
  exact ⟨rfl, HBX.out.below⟩

set_option maxRecDepth 20000 in
set_option maxHeartbeats 8000000 in
theorem fno_3c (w : World) (x : FV) (hx : FAt w w.heap.size x) (hi : FIn x) (hh : headB x.name x.h = true) (k1 : x.h.knd = 3) (hty : typedB x.h.typ = false) (ht0 : x.h.typ = 0) (hset : x.sp.length ≠ 0) : Calls Tryz.prog 20 #[x.val] w (Gave w (.bool false)) := by
  obtain ⟨W, hW⟩ : ∃ W, W = w.alloc (.cells #[.slice x.A x.name.length x.c, .int .i64 x.h.typ, .int .i64 x.h.knd, .int .i64 x.h.rank, .int .i64 x.h.got, .int .i64 x.h.ttl, .slice x.sA x.sp.length x.sc, .slice x.zA x.zone.length x.zc, .slice x.d.Ab x.soa.bytes.length x.d.cb, .slice x.d.Ah x.soa.host.length x.d.ch, .slice x.d.Am x.soa.mail.length x.d.cm, .slice x.d.An x.soa.nums.length x.d.cn, .slice x.d.At x.soa.texts.length x.d.ct] 36) := ⟨_, rfl⟩
  have hB : Below w.heap.size w W := by rw [hW]; exact (Below.refl _ _).alloc (Nat.le_refl _) _
  have HB := Lib.hid hB
  have HN := Lib.hid (fun W' (hb : Below w.heap.size w W') => ref_sound_wide x.A x.c w.heap.size x.name W' (hx.n.below hb) hi.n.1 hi.n.2)
  have HT := Lib.hid (fun W' => time_any x.h.got W')
  have HX := Lib.hid hx
  have HI := Lib.hid hi
  have HTY := Lib.hid (fun W' => typed_any x.h.typ W')
  rw [hty] at HTY
  have b1 : (x.h.knd == 1) = false := by rw [k1]; rfl
  have b2 : (x.h.knd == 2) = false := by rw [k1]; rfl
  have b3 : (x.h.knd == 3) = true := by rw [k1]; rfl
  have HHP := Lib.hid (headB_parts hh)
  have HK := Lib.hid k1
  clear hx hi hh hB hty k1
  subst hW
  obtain ⟨hn, h1, h2, ht, h3, h4⟩ := HHP.out
  rw [hn] at HN
  rw [ht] at HT
  have d1 : decide (x.h.rank < 1) = false := decide_eq_false (by omega)
  have d2 : decide (4 < x.h.rank) = false := decide_eq_false (by omega)
  have d3 : decide (x.h.ttl < 0) = false := decide_eq_false (by omega)
  have d4 : decide (604800 < x.h.ttl) = false := decide_eq_false (by omega)
  clear hn ht h1 h2 h3 h4 HHP
  have b0 : (x.h.typ == 0) = true := by rw [ht0]; rfl
  clear ht0
  have b6 : ((x.sp.length : Int) == 0) = false := beq_eq_false_iff_ne.2 (by omega)
  clear hset
  have HCS := Lib.hid (show ∀ W, FBoxes w x W → (W.cell? ⟨w.heap.size, 0, none⟩ = some (.slice x.A x.name.length x.c) ∧ W.cell? ⟨w.heap.size, 1, none⟩ = some (.int .i64 x.h.typ) ∧ W.cell? ⟨w.heap.size, 2, none⟩ = some (.int .i64 x.h.knd) ∧ W.cell? ⟨w.heap.size, 5, none⟩ = some (.int .i64 x.h.ttl) ∧ W.cell? ⟨w.heap.size, 6, none⟩ = some (.slice x.sA x.sp.length x.sc) ∧ W.cell? ⟨w.heap.size, 7, none⟩ = some (.slice x.zA x.zone.length x.zc)) ∧ (W.cell? ⟨w.heap.size + 1, 0, none⟩ = some (.slice x.d.Ab x.soa.bytes.length x.d.cb) ∧ W.cell? ⟨w.heap.size + 1, 1, none⟩ = some (.slice x.d.Ah x.soa.host.length x.d.ch) ∧ W.cell? ⟨w.heap.size + 1, 2, none⟩ = some (.slice x.d.Am x.soa.mail.length x.d.cm) ∧ W.cell? ⟨w.heap.size + 1, 3, none⟩ = some (.slice x.d.An x.soa.nums.length x.d.cn) ∧ W.cell? ⟨w.heap.size + 1, 4, none⟩ = some (.slice x.d.At x.soa.texts.length x.d.ct)) from fun W h => ⟨⟨h.f.cell 0, h.f.cell 1, h.f.cell 2, h.f.cell 5, h.f.cell 6, h.f.cell 7⟩, ⟨h.d.cell 0, h.d.cell 1, h.d.cell 2, h.d.cell 3, h.d.cell 4⟩⟩)
  have HBX := Lib.hid (FBoxes.made w x)
  go_enter Tryz.func20, Tryz.ntmps20
  go_wp2_with (first
    | (go_at_call 24; refine (HN.out _ HB.out).mono ?_; rintro e w1 ⟨rfl, rfl⟩)
    | (go_at_call 32; refine (HT.out _).mono ?_; rintro e w1 ⟨rfl, rfl⟩))
  refine wp_region_held_drew (S := fun W => (W.cell? ⟨w.heap.size, 0, none⟩ = some (.slice x.A x.name.length x.c) ∧ W.cell? ⟨w.heap.size, 1, none⟩ = some (.int .i64 x.h.typ) ∧ W.cell? ⟨w.heap.size, 2, none⟩ = some (.int .i64 x.h.knd) ∧ W.cell? ⟨w.heap.size, 5, none⟩ = some (.int .i64 x.h.ttl) ∧ W.cell? ⟨w.heap.size, 6, none⟩ = some (.slice x.sA x.sp.length x.sc) ∧ W.cell? ⟨w.heap.size, 7, none⟩ = some (.slice x.zA x.zone.length x.zc)) ∧ (W.cell? ⟨w.heap.size + 1, 0, none⟩ = some (.slice x.d.Ab x.soa.bytes.length x.d.cb) ∧ W.cell? ⟨w.heap.size + 1, 1, none⟩ = some (.slice x.d.Ah x.soa.host.length x.d.ch) ∧ W.cell? ⟨w.heap.size + 1, 2, none⟩ = some (.slice x.d.Am x.soa.mail.length x.d.cm) ∧ W.cell? ⟨w.heap.size + 1, 3, none⟩ = some (.slice x.d.An x.soa.nums.length x.d.cn) ∧ W.cell? ⟨w.heap.size + 1, 4, none⟩ = some (.slice x.d.At x.soa.texts.length x.d.ct))) (by kernel_rfl) (by exact HCS.out _ HBX.out) (fun hHeld => ?_)
  refine takeY 0 ⟨some 124, _, _, _, _, _⟩ (v := ?_) ?_ ?_
  rotate_left
  · intro W hSw
    try dsimp only at hSw
    go_simp
    all_goals (with_reducible rfl)
  try simp only [Act.put, List.setIfInBounds_toArray, List.set_cons_zero, List.set_cons_succ]
  refine takeY 1 ⟨some 125, _, _, _, _, _⟩ (v := ?_) ?_ ?_
  rotate_left
  · intro W hSw
    try dsimp only at hSw
    go_simp
    all_goals (with_reducible rfl)
  try simp only [Act.put, List.setIfInBounds_toArray, List.set_cons_zero, List.set_cons_succ]
  refine takeY 2 ⟨some 126, _, _, _, _, _⟩ (v := ?_) ?_ ?_
  rotate_left
  · intro W hSw
    try dsimp only at hSw
    go_simp
    all_goals (with_reducible rfl)
  try simp only [Act.put, List.setIfInBounds_toArray, List.set_cons_zero, List.set_cons_succ]
  refine takeY 3 ⟨some 127, _, _, _, _, _⟩ (v := ?_) ?_ ?_
  rotate_left
  · intro W hSw
    try dsimp only at hSw
    go_simp
    all_goals (with_reducible rfl)
  try simp only [Act.put, List.setIfInBounds_toArray, List.set_cons_zero, List.set_cons_succ]
  refine takeY 4 ⟨some 128, _, _, _, _, _⟩ (v := ?_) ?_ ?_
  rotate_left
  · intro W hSw
    try dsimp only at hSw
    go_simp
    all_goals (with_reducible rfl)
  try simp only [Act.put, List.setIfInBounds_toArray, List.set_cons_zero, List.set_cons_succ]
  refine wpAnyH_ready (rs := [5]) (by kernel_rfl) (by simp) ?_
  refine AllReadyH.cons (o := { dst := some 129, op := Go.Op.call { callee := Go.Callee.value (Go.Operand.func 41), args := #[Go.Operand.tmp 128], argTypes := #[3] }, type := 4, pos := "ref.go:78", after := #[{ on := 4, ground := Go.Ground.data }], guard := none }) rfl (fun K hK => ?_) AllReadyH.nil
  go_simp
  refine (HTY.out _).mono ?_
  rintro e w1 ⟨rfl, rfl⟩
  refine hK.out _ _ (by exact hHeld) (fun hHeld2 => ?_)
  clear hK K hHeld
  have hHeld := hHeld2
  clear hHeld2
  try simp only [Act.put, List.setIfInBounds_toArray, List.set_cons_zero, List.set_cons_succ]
  refine takeY 6 ⟨some 130, _, _, _, _, _⟩ (v := ?_) ?_ ?_
  rotate_left
  · intro W hSw
    try dsimp only at hSw
    go_simp
    all_goals (with_reducible rfl)
  try simp only [Act.put, List.setIfInBounds_toArray, List.set_cons_zero, List.set_cons_succ]
  refine takeY 7 ⟨some 131, _, _, _, _, _⟩ (v := ?_) ?_ ?_
  rotate_left
  · intro W hSw
    try dsimp only at hSw
    go_simp
    all_goals (with_reducible rfl)
  try simp only [Act.put, List.setIfInBounds_toArray, List.set_cons_zero, List.set_cons_succ]
  refine takeY 8 ⟨some 132, _, _, _, _, _⟩ (v := ?_) ?_ ?_
  rotate_left
  · intro W hSw
    try dsimp only at hSw
    go_simp
    all_goals (with_reducible rfl)
  try simp only [Act.put, List.setIfInBounds_toArray, List.set_cons_zero, List.set_cons_succ]
  refine takeY 9 ⟨some 133, _, _, _, _, _⟩ (v := ?_) ?_ ?_
  rotate_left
  · intro W hSw
    try dsimp only at hSw
    go_simp
    all_goals (with_reducible rfl)
  try simp only [Act.put, List.setIfInBounds_toArray, List.set_cons_zero, List.set_cons_succ]
  refine takeY 10 ⟨some 134, _, _, _, _, _⟩ (v := ?_) ?_ ?_
  rotate_left
  · intro W hSw
    try dsimp only at hSw
    go_simp
    all_goals (with_reducible rfl)
  try simp only [Act.put, List.setIfInBounds_toArray, List.set_cons_zero, List.set_cons_succ]
  refine takeY 11 ⟨some 135, _, _, _, _, _⟩ (v := ?_) ?_ ?_
  rotate_left
  · intro W hSw
    try dsimp only at hSw
    go_simp
    all_goals (with_reducible rfl)
  try simp only [Act.put, List.setIfInBounds_toArray, List.set_cons_zero, List.set_cons_succ]
  refine takeY 12 ⟨some 136, _, _, _, _, _⟩ (v := ?_) ?_ ?_
  rotate_left
  · intro W hSw
    try dsimp only at hSw
    go_simp
    all_goals (with_reducible rfl)
  try simp only [Act.put, List.setIfInBounds_toArray, List.set_cons_zero, List.set_cons_succ]
  refine takeY 13 ⟨some 137, _, _, _, _, _⟩ (v := ?_) ?_ ?_
  rotate_left
  · intro W hSw
    try dsimp only at hSw
    go_simp
    all_goals (with_reducible rfl)
  try simp only [Act.put, List.setIfInBounds_toArray, List.set_cons_zero, List.set_cons_succ]
  refine takeY 14 ⟨some 138, _, _, _, _, _⟩ (v := ?_) ?_ ?_
  rotate_left
  · intro W hSw
    try dsimp only at hSw
    go_simp
    all_goals (with_reducible rfl)
  try simp only [Act.put, List.setIfInBounds_toArray, List.set_cons_zero, List.set_cons_succ]
  refine takeY 15 ⟨some 139, _, _, _, _, _⟩ (v := ?_) ?_ ?_
  rotate_left
  · intro W hSw
    try dsimp only at hSw
    go_simp
    all_goals (with_reducible rfl)
  try simp only [Act.put, List.setIfInBounds_toArray, List.set_cons_zero, List.set_cons_succ]
  refine takeY 16 ⟨some 140, _, _, _, _, _⟩ (v := ?_) ?_ ?_
  rotate_left
  · intro W hSw
    try dsimp only at hSw
    go_simp
    all_goals (with_reducible rfl)
  try simp only [Act.put, List.setIfInBounds_toArray, List.set_cons_zero, List.set_cons_succ]
  refine takeY 17 ⟨some 141, _, _, _, _, _⟩ (v := ?_) ?_ ?_
  rotate_left
  · intro W hSw
    try dsimp only at hSw
    go_simp
    all_goals (with_reducible rfl)
  try simp only [Act.put, List.setIfInBounds_toArray, List.set_cons_zero, List.set_cons_succ]
  refine takeY 18 ⟨some 142, _, _, _, _, _⟩ (v := ?_) ?_ ?_
  rotate_left
  · intro W hSw
    try dsimp only at hSw
    go_simp
    all_goals (with_reducible rfl)
  try simp only [Act.put, List.setIfInBounds_toArray, List.set_cons_zero, List.set_cons_succ]
  refine takeY 19 ⟨some 143, _, _, _, _, _⟩ (v := ?_) ?_ ?_
  rotate_left
  · intro W hSw
    try dsimp only at hSw
    go_simp
    all_goals (with_reducible rfl)
  try simp only [Act.put, List.setIfInBounds_toArray, List.set_cons_zero, List.set_cons_succ]
  refine takeY 20 ⟨some 144, _, _, _, _, _⟩ (v := ?_) ?_ ?_
  rotate_left
  · intro W hSw
    try dsimp only at hSw
    go_simp
    all_goals (with_reducible rfl)
  try simp only [Act.put, List.setIfInBounds_toArray, List.set_cons_zero, List.set_cons_succ]
  refine takeY 21 ⟨some 145, _, _, _, _, _⟩ (v := ?_) ?_ ?_
  rotate_left
  · intro W hSw
    try dsimp only at hSw
    go_simp
    all_goals (with_reducible rfl)
  try simp only [Act.put, List.setIfInBounds_toArray, List.set_cons_zero, List.set_cons_succ]
  refine takeY 22 ⟨some 146, _, _, _, _, _⟩ (v := ?_) ?_ ?_
  rotate_left
  · intro W hSw
    try dsimp only at hSw
    go_simp
    all_goals (with_reducible rfl)
  try simp only [Act.put, List.setIfInBounds_toArray, List.set_cons_zero, List.set_cons_succ]
  refine takeY 23 ⟨some 147, _, _, _, _, _⟩ (v := ?_) ?_ ?_
  rotate_left
  · intro W hSw
    try dsimp only at hSw
    go_simp
    all_goals (with_reducible rfl)
  try simp only [Act.put, List.setIfInBounds_toArray, List.set_cons_zero, List.set_cons_succ]
  refine takeN 24 ⟨some 148, _, _, _, _, _⟩ ?_
  try simp only [Act.put, List.setIfInBounds_toArray, List.set_cons_zero, List.set_cons_succ]
  refine takeN 25 ⟨some 149, _, _, _, _, _⟩ ?_
  try simp only [Act.put, List.setIfInBounds_toArray, List.set_cons_zero, List.set_cons_succ]
  refine takeN 26 ⟨some 150, _, _, _, _, _⟩ ?_
  try simp only [Act.put, List.setIfInBounds_toArray, List.set_cons_zero, List.set_cons_succ]
  refine takeY 27 ⟨some 151, _, _, _, _, _⟩ (v := ?_) ?_ ?_
  rotate_left
  · intro W hSw
    try dsimp only at hSw
    go_simp
    all_goals (with_reducible rfl)
  try simp only [Act.put, List.setIfInBounds_toArray, List.set_cons_zero, List.set_cons_succ]
  refine takeY 28 ⟨some 152, _, _, _, _, _⟩ (v := ?_) ?_ ?_
  rotate_left
  · intro W hSw
    try dsimp only at hSw
    go_simp
    all_goals (with_reducible rfl)
  try simp only [Act.put, List.setIfInBounds_toArray, List.set_cons_zero, List.set_cons_succ]
  refine takeN 29 ⟨some 153, _, _, _, _, _⟩ ?_
  try simp only [Act.put, List.setIfInBounds_toArray, List.set_cons_zero, List.set_cons_succ]
  refine takeN 30 ⟨some 154, _, _, _, _, _⟩ ?_
  try simp only [Act.put, List.setIfInBounds_toArray, List.set_cons_zero, List.set_cons_succ]
  refine takeN 31 ⟨some 155, _, _, _, _, _⟩ ?_
  try simp only [Act.put, List.setIfInBounds_toArray, List.set_cons_zero, List.set_cons_succ]
  refine takeY 32 ⟨some 156, _, _, _, _, _⟩ (v := ?_) ?_ ?_
  rotate_left
  · intro W hSw
    try dsimp only at hSw
    go_simp
    all_goals (with_reducible rfl)
  try simp only [Act.put, List.setIfInBounds_toArray, List.set_cons_zero, List.set_cons_succ]
  refine takeY 33 ⟨some 157, _, _, _, _, _⟩ (v := ?_) ?_ ?_
  rotate_left
  · intro W hSw
    try dsimp only at hSw
    go_simp
    all_goals (with_reducible rfl)
  try simp only [Act.put, List.setIfInBounds_toArray, List.set_cons_zero, List.set_cons_succ]
  refine takeN 34 ⟨some 158, _, _, _, _, _⟩ ?_
  try simp only [Act.put, List.setIfInBounds_toArray, List.set_cons_zero, List.set_cons_succ]
  refine takeN 35 ⟨some 159, _, _, _, _, _⟩ ?_
  try simp only [Act.put, List.setIfInBounds_toArray, List.set_cons_zero, List.set_cons_succ]
  refine takeN 36 ⟨some 160, _, _, _, _, _⟩ ?_
  try simp only [Act.put, List.setIfInBounds_toArray, List.set_cons_zero, List.set_cons_succ]
  refine takeN 37 ⟨some 161, _, _, _, _, _⟩ ?_
  try simp only [Act.put, List.setIfInBounds_toArray, List.set_cons_zero, List.set_cons_succ]
  refine takeN 38 ⟨some 162, _, _, _, _, _⟩ ?_
  try simp only [Act.put, List.setIfInBounds_toArray, List.set_cons_zero, List.set_cons_succ]
  refine takeY 39 ⟨some 163, _, _, _, _, _⟩ (v := ?_) ?_ ?_
  rotate_left
  · intro W hSw
    try dsimp only at hSw
    go_simp
    all_goals (with_reducible rfl)
  try simp only [Act.put, List.setIfInBounds_toArray, List.set_cons_zero, List.set_cons_succ]
  refine takeY 40 ⟨some 164, _, _, _, _, _⟩ (v := ?_) ?_ ?_
  rotate_left
  · intro W hSw
    try dsimp only at hSw
    go_simp
    all_goals (with_reducible rfl)
  try simp only [Act.put, List.setIfInBounds_toArray, List.set_cons_zero, List.set_cons_succ]
  refine takeN 41 ⟨some 165, _, _, _, _, _⟩ ?_
  try simp only [Act.put, List.setIfInBounds_toArray, List.set_cons_zero, List.set_cons_succ]
  refine takeN 42 ⟨some 166, _, _, _, _, _⟩ ?_
  try simp only [Act.put, List.setIfInBounds_toArray, List.set_cons_zero, List.set_cons_succ]
  refine takeY 43 ⟨some 167, _, _, _, _, _⟩ (v := ?_) ?_ ?_
  rotate_left
  · intro W hSw
    try dsimp only at hSw
    go_simp
    all_goals (with_reducible rfl)
  try simp only [Act.put, List.setIfInBounds_toArray, List.set_cons_zero, List.set_cons_succ]
  refine takeY 44 ⟨some 2, _, _, _, _, _⟩ (v := ?_) ?_ ?_
  rotate_left
  · intro W hSw
    try dsimp only at hSw
    go_simp
    all_goals (with_reducible rfl)
  try simp only [Act.put, List.setIfInBounds_toArray, List.set_cons_zero, List.set_cons_succ]
  refine wpAnyH_done (by kernel_rfl) ?_ _
  go_wp2
  go_ret
  exact ⟨rfl, HBX.out.below⟩

end Go.Proofs.YtmbcbfalgdgmjaaGreatDoor
