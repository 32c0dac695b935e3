/-
  Searches among records by the teller's closures.
-/
import Derived.Test.YthppgofpbpjglaaFbP12
import Derived.Deep.CutRange
namespace Go.Proofs.Ythppgofpbpjglaa
open Go.RowKit

/-- Some bool; what holds if it is true. -/
def YesIf (w : World) (P : Prop) (e : Ending) (w' : World) : Prop := ∃ b : Bool, e = .returned (.bool b) ∧ (b = true → P) ∧ Below w.heap.size w w'
/-- The number of a record, or none. -/
def FoundR (w : World) (ps : List (RV × Rt)) (Q : Rt → Prop) (e : Ending) (w' : World) : Prop :=
  ∃ i : Int, e = .returned (.int .i64 i) ∧ (i = -1 ∨ ∃ (k : Nat) (hk : k < ps.length), i = (k : Int) ∧ Q (ps[k]).2) ∧ Below w.heap.size w w'
def isSoa (r : Rt) : Prop := r.kind = 6
def anyR (_ : Rt) : Prop := True

set_option maxRecDepth 20000 in
set_option maxHeartbeats 2000000 in
theorem nothing1_any (w : World) (nb : Nat) (A : Option Addr) (c : Nat) (n : List (List UInt8)) (hb : Whole w nb 23 [.slice A n.length c]) (hn : Row w w.heap.size A (n.map sv)) (hc : n.length ≤ c) (hs : szN n ≤ maxLen) (x : RV) (r : Rt) (hx : RAt w w.heap.size x r) (hr : szN r.name ≤ maxLen) :
    Calls Try.prog 80 #[x.val r, .pointer (some ⟨nb, 0, none⟩)] w (YesIf w (isSoa r)) := by
  have HB := Lib.hid ((Below.refl w.heap.size w).alloc (Nat.le_refl _) (.cells #[.slice x.A r.name.length x.c, .int .i64 r.kind, .int .i64 r.cls, .int .i64 r.ttl, .slice x.d.Ab r.data.bytes.length x.d.cb, .slice x.d.Ah r.data.host.length x.d.ch, .slice x.d.Am r.data.mail.length x.d.cm, .slice x.d.An r.data.nums.length x.d.cn, .slice x.d.At r.data.texts.length x.d.ct] 54))
  have HC := Lib.hid (under_any A x.A n.length r.name.length c x.c w.heap.size n r.name (w.alloc (.cells #[.slice x.A r.name.length x.c, .int .i64 r.kind, .int .i64 r.cls, .int .i64 r.ttl, .slice x.d.Ab r.data.bytes.length x.d.cb, .slice x.d.Ah r.data.host.length x.d.ch, .slice x.d.Am r.data.mail.length x.d.cm, .slice x.d.An r.data.nums.length x.d.cn, .slice x.d.At r.data.texts.length x.d.ct] 54)) rfl rfl (hn.below HB.out) (hx.n.below HB.out) HB.out.size hs hr hc)
  have n0 : (w.alloc (.cells #[.slice x.A r.name.length x.c, .int .i64 r.kind, .int .i64 r.cls, .int .i64 r.ttl, .slice x.d.Ab r.data.bytes.length x.d.cb, .slice x.d.Ah r.data.host.length x.d.ch, .slice x.d.Am r.data.mail.length x.d.cm, .slice x.d.An r.data.nums.length x.d.cn, .slice x.d.At r.data.texts.length x.d.ct] 54)).cell? ⟨nb, 0, none⟩ = some (.slice A n.length c) := (hb.below HB.out hb.lt).cell 0
  clear hb hn hc hs hx hr
  by_cases k6 : r.kind = 6
  · have t : (r.kind == 6) = true := by rw [k6]; rfl
    have HK := Lib.hid k6
    clear k6
    go_enter Try.func80, Try.ntmps80
    go_wp2_with fail
    refine HC.out.mono ?_
    rintro e w1 ⟨rfl, hb1⟩
    go_wp2
    go_ret
    exact ⟨_, rfl, fun _ => HK.out, HB.out.trans (hb1.mono HB.out.size)⟩
  · have t : (r.kind == 6) = false := by rw [beq_eq_false_iff_ne]; exact k6
    clear k6
    go_enter Try.func80, Try.ntmps80
    go_wp2
    go_ret
    exact ⟨_, rfl, (fun h => absurd h (by decide)), HB.out⟩
set_option maxRecDepth 20000 in
set_option maxHeartbeats 2000000 in
theorem refers1_any (w : World) (x : RV) (r : Rt) : Calls Try.prog 105 #[x.val r] w (YesIf w (anyR r)) := by
  have HB := Lib.hid ((Below.refl w.heap.size w).alloc (Nat.le_refl _) (.cells #[.slice x.A r.name.length x.c, .int .i64 r.kind, .int .i64 r.cls, .int .i64 r.ttl, .slice x.d.Ab r.data.bytes.length x.d.cb, .slice x.d.Ah r.data.host.length x.d.ch, .slice x.d.Am r.data.mail.length x.d.cm, .slice x.d.An r.data.nums.length x.d.cn, .slice x.d.At r.data.texts.length x.d.ct] 54))
  by_cases k2 : r.kind = 2
  · have t : (r.kind == 2) = true := by rw [k2]; rfl
    clear k2
    go_enter Try.func105, Try.ntmps105
    go_wp2
    go_ret
    exact ⟨_, rfl, fun _ => trivial, HB.out⟩
  · have t : (r.kind == 2) = false := by rw [beq_eq_false_iff_ne]; exact k2
    clear k2
    go_enter Try.func105, Try.ntmps105
    go_wp2
    go_ret
    exact ⟨_, rfl, fun _ => trivial, HB.out⟩

set_option maxRecDepth 20000 in
set_option maxHeartbeats 8000000 in
theorem referral1_any (w0 w : World) (T : Te) (b tb : Nat) (an au ex : Sec) (v : Value) (xs : List FV) (h : TAt w0 T b an au ex v xs w) (ok : TeOk w0 T) (ht : Whole w tb 69 [.pointer (some ⟨b, 0, none⟩)]) (x : RV) (r : Rt) (hx : RAt w w.heap.size x r) (hr : soundN r.name = true) :
    Calls Try.prog 86 #[x.val r, .pointer (some ⟨tb, 0, none⟩)] w (YesIf w (anyR r)) := by
  have HB := Lib.hid ((Below.refl w.heap.size w).alloc (Nat.le_refl _) (.cells #[.slice x.A r.name.length x.c, .int .i64 r.kind, .int .i64 r.cls, .int .i64 r.ttl, .slice x.d.Ab r.data.bytes.length x.d.cb, .slice x.d.Ah r.data.host.length x.d.ch, .slice x.d.Am r.data.mail.length x.d.cm, .slice x.d.An r.data.nums.length x.d.cn, .slice x.d.At r.data.texts.length x.d.ct] 54))
  have HWB := Lib.hid (Whole.made w (cellsR (x, r)) 54)
  have hzn : (w.alloc (.cells #[.slice x.A r.name.length x.c, .int .i64 r.kind, .int .i64 r.cls, .int .i64 r.ttl, .slice x.d.Ab r.data.bytes.length x.d.cb, .slice x.d.Ah r.data.host.length x.d.ch, .slice x.d.Am r.data.mail.length x.d.cm, .slice x.d.An r.data.nums.length x.d.cn, .slice x.d.At r.data.texts.length x.d.ct] 54)).heap.size = w.heap.size + 1 := by simp
  have hzl : w.heap.size ≤ (w.alloc (.cells #[.slice x.A r.name.length x.c, .int .i64 r.kind, .int .i64 r.cls, .int .i64 r.ttl, .slice x.d.Ab r.data.bytes.length x.d.cb, .slice x.d.Ah r.data.host.length x.d.ch, .slice x.d.Am r.data.mail.length x.d.cm, .slice x.d.An r.data.nums.length x.d.cn, .slice x.d.At r.data.texts.length x.d.ct] 54)).heap.size := by rw [hzn]; omega
  have HBC := Lib.hid (Below.refl (w.alloc (.cells #[.slice x.A r.name.length x.c, .int .i64 r.kind, .int .i64 r.cls, .int .i64 r.ttl, .slice x.d.Ab r.data.bytes.length x.d.cb, .slice x.d.Ah r.data.host.length x.d.ch, .slice x.d.Am r.data.mail.length x.d.cm, .slice x.d.An r.data.nums.length x.d.cn, .slice x.d.At r.data.texts.length x.d.ct] 54)).heap.size (w.alloc (.cells #[.slice x.A r.name.length x.c, .int .i64 r.kind, .int .i64 r.cls, .int .i64 r.ttl, .slice x.d.Ab r.data.bytes.length x.d.cb, .slice x.d.Ah r.data.host.length x.d.ch, .slice x.d.Am r.data.mail.length x.d.cm, .slice x.d.An r.data.nums.length x.d.cn, .slice x.d.At r.data.texts.length x.d.ct] 54))).drew
  have HSX := Lib.hid (show ∀ W, Below (w.alloc (.cells #[.slice x.A r.name.length x.c, .int .i64 r.kind, .int .i64 r.cls, .int .i64 r.ttl, .slice x.d.Ab r.data.bytes.length x.d.cb, .slice x.d.Ah r.data.host.length x.d.ch, .slice x.d.Am r.data.mail.length x.d.cm, .slice x.d.An r.data.nums.length x.d.cn, .slice x.d.At r.data.texts.length x.d.ct] 54)).heap.size (w.alloc (.cells #[.slice x.A r.name.length x.c, .int .i64 r.kind, .int .i64 r.cls, .int .i64 r.ttl, .slice x.d.Ab r.data.bytes.length x.d.cb, .slice x.d.Ah r.data.host.length x.d.ch, .slice x.d.Am r.data.mail.length x.d.cm, .slice x.d.An r.data.nums.length x.d.cn, .slice x.d.At r.data.texts.length x.d.ct] 54)) W → (W.cell? ⟨b, 17, none⟩ = some (.slice T.A T.z.length T.c) ∧ W.cell? ⟨b, 0, none⟩ = some (.slice T.y.1 T.q.name.length T.y.2) ∧ W.cell? ⟨tb, 0, none⟩ = some (.pointer (some ⟨b, 0, none⟩)) ∧ W.cell? ⟨w.heap.size, 0, none⟩ = some (.slice x.A r.name.length x.c) ∧ W.cell? ⟨w.heap.size, 1, none⟩ = some (.int .i64 r.kind)) from fun W hb => ⟨(h.step (HB.out.trans (hb.mono hzl))).blk.cell 17, (h.step (HB.out.trans (hb.mono hzl))).blk.cell 0, (ht.below (HB.out.trans (hb.mono hzl)) ht.lt).cell 0, (HWB.out.below hb HWB.out.lt).cell 0, (HWB.out.below hb HWB.out.lt).cell 1⟩)
  have hZ := fun W (hb : Below (w.alloc (.cells #[.slice x.A r.name.length x.c, .int .i64 r.kind, .int .i64 r.cls, .int .i64 r.ttl, .slice x.d.Ab r.data.bytes.length x.d.cb, .slice x.d.Ah r.data.host.length x.d.ch, .slice x.d.Am r.data.mail.length x.d.cm, .slice x.d.An r.data.nums.length x.d.cn, .slice x.d.At r.data.texts.length x.d.ct] 54)).heap.size (w.alloc (.cells #[.slice x.A r.name.length x.c, .int .i64 r.kind, .int .i64 r.cls, .int .i64 r.ttl, .slice x.d.Ab r.data.bytes.length x.d.cb, .slice x.d.Ah r.data.host.length x.d.ch, .slice x.d.Am r.data.mail.length x.d.cm, .slice x.d.An r.data.nums.length x.d.cn, .slice x.d.At r.data.texts.length x.d.ct] 54)) W) => (show Row W W.heap.size T.A (T.z.map sv) from ((ok.z.below h.below).below ((HB.out.trans (hb.mono hzl)).mono h.size)).mono (Nat.le_trans h.size (Nat.le_trans hzl hb.size)))
  have hQ := fun W (hb : Below (w.alloc (.cells #[.slice x.A r.name.length x.c, .int .i64 r.kind, .int .i64 r.cls, .int .i64 r.ttl, .slice x.d.Ab r.data.bytes.length x.d.cb, .slice x.d.Ah r.data.host.length x.d.ch, .slice x.d.Am r.data.mail.length x.d.cm, .slice x.d.An r.data.nums.length x.d.cn, .slice x.d.At r.data.texts.length x.d.ct] 54)).heap.size (w.alloc (.cells #[.slice x.A r.name.length x.c, .int .i64 r.kind, .int .i64 r.cls, .int .i64 r.ttl, .slice x.d.Ab r.data.bytes.length x.d.cb, .slice x.d.Ah r.data.host.length x.d.ch, .slice x.d.Am r.data.mail.length x.d.cm, .slice x.d.An r.data.nums.length x.d.cn, .slice x.d.At r.data.texts.length x.d.ct] 54)) W) => (show Row W W.heap.size T.y.1 (T.q.name.map sv) from (Row.below (Row.below ok.q h.below) ((HB.out.trans (hb.mono hzl)).mono h.size)).mono (Nat.le_trans h.size (Nat.le_trans hzl hb.size)))
  have hX := fun W (hb : Below (w.alloc (.cells #[.slice x.A r.name.length x.c, .int .i64 r.kind, .int .i64 r.cls, .int .i64 r.ttl, .slice x.d.Ab r.data.bytes.length x.d.cb, .slice x.d.Ah r.data.host.length x.d.ch, .slice x.d.Am r.data.mail.length x.d.cm, .slice x.d.An r.data.nums.length x.d.cn, .slice x.d.At r.data.texts.length x.d.ct] 54)).heap.size (w.alloc (.cells #[.slice x.A r.name.length x.c, .int .i64 r.kind, .int .i64 r.cls, .int .i64 r.ttl, .slice x.d.Ab r.data.bytes.length x.d.cb, .slice x.d.Ah r.data.host.length x.d.ch, .slice x.d.Am r.data.mail.length x.d.cm, .slice x.d.An r.data.nums.length x.d.cn, .slice x.d.At r.data.texts.length x.d.ct] 54)) W) => (show Row W W.heap.size x.A (r.name.map sv) from (hx.n.below (HB.out.trans (hb.mono hzl))).mono (Nat.le_trans hzl hb.size))
  have HEQ := Lib.hid (fun W (hb : Below (w.alloc (.cells #[.slice x.A r.name.length x.c, .int .i64 r.kind, .int .i64 r.cls, .int .i64 r.ttl, .slice x.d.Ab r.data.bytes.length x.d.cb, .slice x.d.Ah r.data.host.length x.d.ch, .slice x.d.Am r.data.mail.length x.d.cm, .slice x.d.An r.data.nums.length x.d.cn, .slice x.d.At r.data.texts.length x.d.ct] 54)).heap.size (w.alloc (.cells #[.slice x.A r.name.length x.c, .int .i64 r.kind, .int .i64 r.cls, .int .i64 r.ttl, .slice x.d.Ab r.data.bytes.length x.d.cb, .slice x.d.Ah r.data.host.length x.d.ch, .slice x.d.Am r.data.mail.length x.d.cm, .slice x.d.An r.data.nums.length x.d.cn, .slice x.d.At r.data.texts.length x.d.ct] 54)) W) => equal_wide x.A T.A r.name.length T.z.length x.c T.c W.heap.size r.name T.z W rfl rfl (hX W hb) (hZ W hb) (Nat.le_refl _) (soundN_wide hr) (soundN_wide ok.zs))
  have HUN := Lib.hid (fun W (hb : Below (w.alloc (.cells #[.slice x.A r.name.length x.c, .int .i64 r.kind, .int .i64 r.cls, .int .i64 r.ttl, .slice x.d.Ab r.data.bytes.length x.d.cb, .slice x.d.Ah r.data.host.length x.d.ch, .slice x.d.Am r.data.mail.length x.d.cm, .slice x.d.An r.data.nums.length x.d.cn, .slice x.d.At r.data.texts.length x.d.ct] 54)).heap.size (w.alloc (.cells #[.slice x.A r.name.length x.c, .int .i64 r.kind, .int .i64 r.cls, .int .i64 r.ttl, .slice x.d.Ab r.data.bytes.length x.d.cb, .slice x.d.Ah r.data.host.length x.d.ch, .slice x.d.Am r.data.mail.length x.d.cm, .slice x.d.An r.data.nums.length x.d.cn, .slice x.d.At r.data.texts.length x.d.ct] 54)) W) => under_any T.y.1 x.A T.q.name.length r.name.length T.y.2 x.c W.heap.size T.q.name r.name W rfl rfl (hQ W hb) (hX W hb) (Nat.le_refl _) (soundN_sz ok.qs) (soundN_sz hr) ok.qc)
  clear hZ hQ hX h ok ht hx hr
  by_cases k2 : r.kind = 2
  case neg =>
    have t : (r.kind == 2) = false := by rw [beq_eq_false_iff_ne]; exact k2
    clear k2
    go_enter Try.func86, Try.ntmps86
    go_wp2
    refine wp_region_held_drew (S := fun W => (W.cell? ⟨b, 17, none⟩ = some (.slice T.A T.z.length T.c) ∧ W.cell? ⟨b, 0, none⟩ = some (.slice T.y.1 T.q.name.length T.y.2) ∧ W.cell? ⟨tb, 0, none⟩ = some (.pointer (some ⟨b, 0, none⟩)) ∧ W.cell? ⟨w.heap.size, 0, none⟩ = some (.slice x.A r.name.length x.c) ∧ W.cell? ⟨w.heap.size, 1, none⟩ = some (.int .i64 r.kind))) (by kernel_rfl) (by exact HSX.out _ HBC.out) (fun hHeld => ?_)
    refine wpAnyH_take (i := 0) (oi := ⟨some 4, _, _, _, _, _⟩) (v := ?_) rfl (by kernel_rfl) (by kernel_rfl) (by kernel_rfl) (fun _ _ _ h => h) (Or.inl ⟨by kernel_rfl, ?_⟩) (by assumption) ?_
    rotate_left
    · intro W hSw
      try dsimp only at hSw
      go_simp
      all_goals (with_reducible rfl)
    try simp only [Act.put, List.setIfInBounds_toArray, List.set_cons_zero, List.set_cons_succ]
    refine wpAnyH_take (i := 1) (oi := ⟨some 5, _, _, _, _, _⟩) (v := ?_) rfl (by kernel_rfl) (by kernel_rfl) (by kernel_rfl) (fun _ _ _ h => h) (Or.inl ⟨by kernel_rfl, ?_⟩) (by assumption) ?_
    rotate_left
    · intro W hSw
      try dsimp only at hSw
      go_simp
      all_goals (with_reducible rfl)
    try simp only [Act.put, List.setIfInBounds_toArray, List.set_cons_zero, List.set_cons_succ]
    refine wpAnyH_take (i := 2) (oi := ⟨some 6, _, _, _, _, _⟩) (v := ?_) rfl (by kernel_rfl) (by kernel_rfl) (by kernel_rfl) (fun _ _ _ h => h) (Or.inl ⟨by kernel_rfl, ?_⟩) (by assumption) ?_
    rotate_left
    · intro W hSw
      try dsimp only at hSw
      go_simp
      all_goals (with_reducible rfl)
    try simp only [Act.put, List.setIfInBounds_toArray, List.set_cons_zero, List.set_cons_succ]
    refine wpAnyH_take (i := 3) (oi := ⟨some 7, _, _, _, _, _⟩) (v := ?_) rfl (by kernel_rfl) (by kernel_rfl) (by kernel_rfl) (fun _ _ _ h => h) (Or.inl ⟨by kernel_rfl, ?_⟩) (by assumption) ?_
    rotate_left
    · intro W hSw
      try dsimp only at hSw
      go_simp
      all_goals (with_reducible rfl)
    try simp only [Act.put, List.setIfInBounds_toArray, List.set_cons_zero, List.set_cons_succ]
    refine wpAnyH_take (i := 4) (oi := ⟨some 8, _, _, _, _, _⟩) rfl (by kernel_rfl) (by kernel_rfl) (by kernel_rfl) (fun _ _ _ h => h) (Or.inr ⟨by kernel_rfl, rfl⟩) (by assumption) ?_
    try simp only [Act.put, List.setIfInBounds_toArray, List.set_cons_zero, List.set_cons_succ]
    refine wpAnyH_take (i := 5) (oi := ⟨some 9, _, _, _, _, _⟩) rfl (by kernel_rfl) (by kernel_rfl) (by kernel_rfl) (fun _ _ _ h => h) (Or.inr ⟨by kernel_rfl, rfl⟩) (by assumption) ?_
    try simp only [Act.put, List.setIfInBounds_toArray, List.set_cons_zero, List.set_cons_succ]
    refine wpAnyH_take (i := 6) (oi := ⟨some 10, _, _, _, _, _⟩) rfl (by kernel_rfl) (by kernel_rfl) (by kernel_rfl) (fun _ _ _ h => h) (Or.inr ⟨by kernel_rfl, rfl⟩) (by assumption) ?_
    try simp only [Act.put, List.setIfInBounds_toArray, List.set_cons_zero, List.set_cons_succ]
    refine wpAnyH_take (i := 7) (oi := ⟨some 11, _, _, _, _, _⟩) rfl (by kernel_rfl) (by kernel_rfl) (by kernel_rfl) (fun _ _ _ h => h) (Or.inr ⟨by kernel_rfl, rfl⟩) (by assumption) ?_
    try simp only [Act.put, List.setIfInBounds_toArray, List.set_cons_zero, List.set_cons_succ]
    refine wpAnyH_take (i := 8) (oi := ⟨some 12, _, _, _, _, _⟩) rfl (by kernel_rfl) (by kernel_rfl) (by kernel_rfl) (fun _ _ _ h => h) (Or.inr ⟨by kernel_rfl, rfl⟩) (by assumption) ?_
    try simp only [Act.put, List.setIfInBounds_toArray, List.set_cons_zero, List.set_cons_succ]
    refine wpAnyH_take (i := 9) (oi := ⟨some 13, _, _, _, _, _⟩) rfl (by kernel_rfl) (by kernel_rfl) (by kernel_rfl) (fun _ _ _ h => h) (Or.inr ⟨by kernel_rfl, rfl⟩) (by assumption) ?_
    try simp only [Act.put, List.setIfInBounds_toArray, List.set_cons_zero, List.set_cons_succ]
    refine wpAnyH_take (i := 10) (oi := ⟨some 14, _, _, _, _, _⟩) rfl (by kernel_rfl) (by kernel_rfl) (by kernel_rfl) (fun _ _ _ h => h) (Or.inr ⟨by kernel_rfl, rfl⟩) (by assumption) ?_
    try simp only [Act.put, List.setIfInBounds_toArray, List.set_cons_zero, List.set_cons_succ]
    refine wpAnyH_take (i := 11) (oi := ⟨some 15, _, _, _, _, _⟩) rfl (by kernel_rfl) (by kernel_rfl) (by kernel_rfl) (fun _ _ _ h => h) (Or.inr ⟨by kernel_rfl, rfl⟩) (by assumption) ?_
    try simp only [Act.put, List.setIfInBounds_toArray, List.set_cons_zero, List.set_cons_succ]
    refine wpAnyH_take (i := 12) (oi := ⟨some 16, _, _, _, _, _⟩) (v := ?_) rfl (by kernel_rfl) (by kernel_rfl) (by kernel_rfl) (fun _ _ _ h => h) (Or.inl ⟨by kernel_rfl, ?_⟩) (by assumption) ?_
    rotate_left
    · intro W hSw
      try dsimp only at hSw
      go_simp
      all_goals (with_reducible rfl)
    try simp only [Act.put, List.setIfInBounds_toArray, List.set_cons_zero, List.set_cons_succ]
    refine wpAnyH_take (i := 13) (oi := ⟨some 17, _, _, _, _, _⟩) (v := ?_) rfl (by kernel_rfl) (by kernel_rfl) (by kernel_rfl) (fun _ _ _ h => h) (Or.inl ⟨by kernel_rfl, ?_⟩) (by assumption) ?_
    rotate_left
    · intro W hSw
      try dsimp only at hSw
      go_simp
      all_goals (with_reducible rfl)
    try simp only [Act.put, List.setIfInBounds_toArray, List.set_cons_zero, List.set_cons_succ]
    refine wpAnyH_take (i := 14) (oi := ⟨some 18, _, _, _, _, _⟩) rfl (by kernel_rfl) (by kernel_rfl) (by kernel_rfl) (fun _ _ _ h => h) (Or.inr ⟨by kernel_rfl, rfl⟩) (by assumption) ?_
    try simp only [Act.put, List.setIfInBounds_toArray, List.set_cons_zero, List.set_cons_succ]
    refine wpAnyH_take (i := 15) (oi := ⟨some 19, _, _, _, _, _⟩) rfl (by kernel_rfl) (by kernel_rfl) (by kernel_rfl) (fun _ _ _ h => h) (Or.inr ⟨by kernel_rfl, rfl⟩) (by assumption) ?_
    try simp only [Act.put, List.setIfInBounds_toArray, List.set_cons_zero, List.set_cons_succ]
    refine wpAnyH_take (i := 16) (oi := ⟨some 20, _, _, _, _, _⟩) rfl (by kernel_rfl) (by kernel_rfl) (by kernel_rfl) (fun _ _ _ h => h) (Or.inr ⟨by kernel_rfl, rfl⟩) (by assumption) ?_
    try simp only [Act.put, List.setIfInBounds_toArray, List.set_cons_zero, List.set_cons_succ]
    refine wpAnyH_take (i := 17) (oi := ⟨some 21, _, _, _, _, _⟩) rfl (by kernel_rfl) (by kernel_rfl) (by kernel_rfl) (fun _ _ _ h => h) (Or.inr ⟨by kernel_rfl, rfl⟩) (by assumption) ?_
    try simp only [Act.put, List.setIfInBounds_toArray, List.set_cons_zero, List.set_cons_succ]
    refine wpAnyH_take (i := 18) (oi := ⟨some 22, _, _, _, _, _⟩) rfl (by kernel_rfl) (by kernel_rfl) (by kernel_rfl) (fun _ _ _ h => h) (Or.inr ⟨by kernel_rfl, rfl⟩) (by assumption) ?_
    try simp only [Act.put, List.setIfInBounds_toArray, List.set_cons_zero, List.set_cons_succ]
    refine wpAnyH_take (i := 19) (oi := ⟨some 23, _, _, _, _, _⟩) rfl (by kernel_rfl) (by kernel_rfl) (by kernel_rfl) (fun _ _ _ h => h) (Or.inr ⟨by kernel_rfl, rfl⟩) (by assumption) ?_
    try simp only [Act.put, List.setIfInBounds_toArray, List.set_cons_zero, List.set_cons_succ]
    refine wpAnyH_take (i := 20) (oi := ⟨some 24, _, _, _, _, _⟩) rfl (by kernel_rfl) (by kernel_rfl) (by kernel_rfl) (fun _ _ _ h => h) (Or.inr ⟨by kernel_rfl, rfl⟩) (by assumption) ?_
    try simp only [Act.put, List.setIfInBounds_toArray, List.set_cons_zero, List.set_cons_succ]
    refine wpAnyH_take (i := 21) (oi := ⟨some 25, _, _, _, _, _⟩) rfl (by kernel_rfl) (by kernel_rfl) (by kernel_rfl) (fun _ _ _ h => h) (Or.inr ⟨by kernel_rfl, rfl⟩) (by assumption) ?_
    try simp only [Act.put, List.setIfInBounds_toArray, List.set_cons_zero, List.set_cons_succ]
    refine wpAnyH_take (i := 22) (oi := ⟨some 26, _, _, _, _, _⟩) (v := ?_) rfl (by kernel_rfl) (by kernel_rfl) (by kernel_rfl) (fun _ _ _ h => h) (Or.inl ⟨by kernel_rfl, ?_⟩) (by assumption) ?_
    rotate_left
    · intro W hSw
      try dsimp only at hSw
      go_simp
      all_goals (with_reducible rfl)
    try simp only [Act.put, List.setIfInBounds_toArray, List.set_cons_zero, List.set_cons_succ]
    refine wpAnyH_take (i := 23) (oi := ⟨some 3, _, _, _, _, _⟩) (v := ?_) rfl (by kernel_rfl) (by kernel_rfl) (by kernel_rfl) (fun _ _ _ h => h) (Or.inl ⟨by kernel_rfl, ?_⟩) (by assumption) ?_
    rotate_left
    · intro W hSw
      try dsimp only at hSw
      go_simp
      all_goals (with_reducible rfl)
    try simp only [Act.put, List.setIfInBounds_toArray, List.set_cons_zero, List.set_cons_succ]
    refine wpAnyH_done (by kernel_rfl) ?_ _
    go_wp2
    go_ret
    exact ⟨_, rfl, fun _ => trivial, HB.out.trans (HBC.out.mono HB.out.size)⟩
  have t : (r.kind == 2) = true := by rw [k2]; rfl
  clear k2
  cases e1 : eqN r.name T.z with
  | true =>
    rw [e1] at HEQ
    go_enter Try.func86, Try.ntmps86
    go_wp2
    refine wp_region_held_drew (S := fun W => (W.cell? ⟨b, 17, none⟩ = some (.slice T.A T.z.length T.c) ∧ W.cell? ⟨b, 0, none⟩ = some (.slice T.y.1 T.q.name.length T.y.2) ∧ W.cell? ⟨tb, 0, none⟩ = some (.pointer (some ⟨b, 0, none⟩)) ∧ W.cell? ⟨w.heap.size, 0, none⟩ = some (.slice x.A r.name.length x.c) ∧ W.cell? ⟨w.heap.size, 1, none⟩ = some (.int .i64 r.kind))) (by kernel_rfl) (by exact HSX.out _ HBC.out) (fun hHeld => ?_)
    refine wpAnyH_take (i := 0) (oi := ⟨some 4, _, _, _, _, _⟩) (v := ?_) rfl (by kernel_rfl) (by kernel_rfl) (by kernel_rfl) (fun _ _ _ h => h) (Or.inl ⟨by kernel_rfl, ?_⟩) (by assumption) ?_
    rotate_left
    · intro W hSw
      try dsimp only at hSw
      go_simp
      all_goals (with_reducible rfl)
    try simp only [Act.put, List.setIfInBounds_toArray, List.set_cons_zero, List.set_cons_succ]
    refine wpAnyH_take (i := 1) (oi := ⟨some 5, _, _, _, _, _⟩) (v := ?_) rfl (by kernel_rfl) (by kernel_rfl) (by kernel_rfl) (fun _ _ _ h => h) (Or.inl ⟨by kernel_rfl, ?_⟩) (by assumption) ?_
    rotate_left
    · intro W hSw
      try dsimp only at hSw
      go_simp
      all_goals (with_reducible rfl)
    try simp only [Act.put, List.setIfInBounds_toArray, List.set_cons_zero, List.set_cons_succ]
    refine wpAnyH_take (i := 2) (oi := ⟨some 6, _, _, _, _, _⟩) (v := ?_) rfl (by kernel_rfl) (by kernel_rfl) (by kernel_rfl) (fun _ _ _ h => h) (Or.inl ⟨by kernel_rfl, ?_⟩) (by assumption) ?_
    rotate_left
    · intro W hSw
      try dsimp only at hSw
      go_simp
      all_goals (with_reducible rfl)
    try simp only [Act.put, List.setIfInBounds_toArray, List.set_cons_zero, List.set_cons_succ]
    refine wpAnyH_take (i := 3) (oi := ⟨some 7, _, _, _, _, _⟩) (v := ?_) rfl (by kernel_rfl) (by kernel_rfl) (by kernel_rfl) (fun _ _ _ h => h) (Or.inl ⟨by kernel_rfl, ?_⟩) (by assumption) ?_
    rotate_left
    · intro W hSw
      try dsimp only at hSw
      go_simp
      all_goals (with_reducible rfl)
    try simp only [Act.put, List.setIfInBounds_toArray, List.set_cons_zero, List.set_cons_succ]
    refine wpAnyH_take (i := 4) (oi := ⟨some 8, _, _, _, _, _⟩) (v := ?_) rfl (by kernel_rfl) (by kernel_rfl) (by kernel_rfl) (fun _ _ _ h => h) (Or.inl ⟨by kernel_rfl, ?_⟩) (by assumption) ?_
    rotate_left
    · intro W hSw
      try dsimp only at hSw
      go_simp
      all_goals (with_reducible rfl)
    try simp only [Act.put, List.setIfInBounds_toArray, List.set_cons_zero, List.set_cons_succ]
    refine wpAnyH_take (i := 5) (oi := ⟨some 9, _, _, _, _, _⟩) (v := ?_) rfl (by kernel_rfl) (by kernel_rfl) (by kernel_rfl) (fun _ _ _ h => h) (Or.inl ⟨by kernel_rfl, ?_⟩) (by assumption) ?_
    rotate_left
    · intro W hSw
      try dsimp only at hSw
      go_simp
      all_goals (with_reducible rfl)
    try simp only [Act.put, List.setIfInBounds_toArray, List.set_cons_zero, List.set_cons_succ]
    refine wpAnyH_take (i := 6) (oi := ⟨some 10, _, _, _, _, _⟩) (v := ?_) rfl (by kernel_rfl) (by kernel_rfl) (by kernel_rfl) (fun _ _ _ h => h) (Or.inl ⟨by kernel_rfl, ?_⟩) (by assumption) ?_
    rotate_left
    · intro W hSw
      try dsimp only at hSw
      go_simp
      all_goals (with_reducible rfl)
    try simp only [Act.put, List.setIfInBounds_toArray, List.set_cons_zero, List.set_cons_succ]
    refine wpAnyH_take (i := 7) (oi := ⟨some 11, _, _, _, _, _⟩) (v := ?_) rfl (by kernel_rfl) (by kernel_rfl) (by kernel_rfl) (fun _ _ _ h => h) (Or.inl ⟨by kernel_rfl, ?_⟩) (by assumption) ?_
    rotate_left
    · intro W hSw
      try dsimp only at hSw
      go_simp
      all_goals (with_reducible rfl)
    try simp only [Act.put, List.setIfInBounds_toArray, List.set_cons_zero, List.set_cons_succ]
    refine wpAnyH_take (i := 8) (oi := ⟨some 12, _, _, _, _, _⟩) (v := ?_) rfl (by kernel_rfl) (by kernel_rfl) (by kernel_rfl) (fun _ _ _ h => h) (Or.inl ⟨by kernel_rfl, ?_⟩) (by assumption) ?_
    rotate_left
    · intro W hSw
      try dsimp only at hSw
      go_simp
      all_goals (with_reducible rfl)
    try simp only [Act.put, List.setIfInBounds_toArray, List.set_cons_zero, List.set_cons_succ]
    refine wpAnyH_take (i := 9) (oi := ⟨some 13, _, _, _, _, _⟩) (v := ?_) rfl (by kernel_rfl) (by kernel_rfl) (by kernel_rfl) (fun _ _ _ h => h) (Or.inl ⟨by kernel_rfl, ?_⟩) (by assumption) ?_
    rotate_left
    · intro W hSw
      try dsimp only at hSw
      go_simp
      all_goals (with_reducible rfl)
    try simp only [Act.put, List.setIfInBounds_toArray, List.set_cons_zero, List.set_cons_succ]
    refine wpAnyH_ready (rs := [10]) (by kernel_rfl) (by simp) ?_
    refine AllReadyH.cons (o := { dst := some 14, op := Go.Op.call { callee := Go.Callee.value (Go.Operand.func 24), args := #[Go.Operand.tmp 9, Go.Operand.tmp 13], argTypes := #[23, 23] }, type := 4, pos := "from.go:144", after := #[{ on := 5, ground := Go.Ground.data }, { on := 9, ground := Go.Ground.data }, { on := 3, ground := Go.Ground.chain }, { on := 3, ground := Go.Ground.guard }], guard := some (3, true) }) rfl (fun K hK => ?_) AllReadyH.nil
    go_simp
    refine (HEQ.out _ HBC.out).mono ?_
    rintro e w4 ⟨rfl, hb4⟩
    have HBC := Lib.hid (HBC.out.trans (hb4.mono HBC.out.size))
    clear hb4
    refine hK.out _ _ (by exact HSX.out _ HBC.out) (fun hHeld2 => ?_)
    clear hK K hHeld
    have hHeld := hHeld2
    clear hHeld2
    try simp only [Act.put, List.setIfInBounds_toArray, List.set_cons_zero, List.set_cons_succ]
    refine wpAnyH_take (i := 11) (oi := ⟨some 15, _, _, _, _, _⟩) (v := ?_) rfl (by kernel_rfl) (by kernel_rfl) (by kernel_rfl) (fun _ _ _ h => h) (Or.inl ⟨by kernel_rfl, ?_⟩) (by assumption) ?_
    rotate_left
    · intro W hSw
      try dsimp only at hSw
      go_simp
      all_goals (with_reducible rfl)
    try simp only [Act.put, List.setIfInBounds_toArray, List.set_cons_zero, List.set_cons_succ]
    refine wpAnyH_take (i := 12) (oi := ⟨some 16, _, _, _, _, _⟩) (v := ?_) rfl (by kernel_rfl) (by kernel_rfl) (by kernel_rfl) (fun _ _ _ h => h) (Or.inl ⟨by kernel_rfl, ?_⟩) (by assumption) ?_
    rotate_left
    · intro W hSw
      try dsimp only at hSw
      go_simp
      all_goals (with_reducible rfl)
    try simp only [Act.put, List.setIfInBounds_toArray, List.set_cons_zero, List.set_cons_succ]
    refine wpAnyH_take (i := 13) (oi := ⟨some 17, _, _, _, _, _⟩) (v := ?_) rfl (by kernel_rfl) (by kernel_rfl) (by kernel_rfl) (fun _ _ _ h => h) (Or.inl ⟨by kernel_rfl, ?_⟩) (by assumption) ?_
    rotate_left
    · intro W hSw
      try dsimp only at hSw
      go_simp
      all_goals (with_reducible rfl)
    try simp only [Act.put, List.setIfInBounds_toArray, List.set_cons_zero, List.set_cons_succ]
    refine wpAnyH_take (i := 14) (oi := ⟨some 18, _, _, _, _, _⟩) rfl (by kernel_rfl) (by kernel_rfl) (by kernel_rfl) (fun _ _ _ h => h) (Or.inr ⟨by kernel_rfl, rfl⟩) (by assumption) ?_
    try simp only [Act.put, List.setIfInBounds_toArray, List.set_cons_zero, List.set_cons_succ]
    refine wpAnyH_take (i := 15) (oi := ⟨some 19, _, _, _, _, _⟩) rfl (by kernel_rfl) (by kernel_rfl) (by kernel_rfl) (fun _ _ _ h => h) (Or.inr ⟨by kernel_rfl, rfl⟩) (by assumption) ?_
    try simp only [Act.put, List.setIfInBounds_toArray, List.set_cons_zero, List.set_cons_succ]
    refine wpAnyH_take (i := 16) (oi := ⟨some 20, _, _, _, _, _⟩) rfl (by kernel_rfl) (by kernel_rfl) (by kernel_rfl) (fun _ _ _ h => h) (Or.inr ⟨by kernel_rfl, rfl⟩) (by assumption) ?_
    try simp only [Act.put, List.setIfInBounds_toArray, List.set_cons_zero, List.set_cons_succ]
    refine wpAnyH_take (i := 17) (oi := ⟨some 21, _, _, _, _, _⟩) rfl (by kernel_rfl) (by kernel_rfl) (by kernel_rfl) (fun _ _ _ h => h) (Or.inr ⟨by kernel_rfl, rfl⟩) (by assumption) ?_
    try simp only [Act.put, List.setIfInBounds_toArray, List.set_cons_zero, List.set_cons_succ]
    refine wpAnyH_take (i := 18) (oi := ⟨some 22, _, _, _, _, _⟩) rfl (by kernel_rfl) (by kernel_rfl) (by kernel_rfl) (fun _ _ _ h => h) (Or.inr ⟨by kernel_rfl, rfl⟩) (by assumption) ?_
    try simp only [Act.put, List.setIfInBounds_toArray, List.set_cons_zero, List.set_cons_succ]
    refine wpAnyH_take (i := 19) (oi := ⟨some 23, _, _, _, _, _⟩) rfl (by kernel_rfl) (by kernel_rfl) (by kernel_rfl) (fun _ _ _ h => h) (Or.inr ⟨by kernel_rfl, rfl⟩) (by assumption) ?_
    try simp only [Act.put, List.setIfInBounds_toArray, List.set_cons_zero, List.set_cons_succ]
    refine wpAnyH_take (i := 20) (oi := ⟨some 24, _, _, _, _, _⟩) rfl (by kernel_rfl) (by kernel_rfl) (by kernel_rfl) (fun _ _ _ h => h) (Or.inr ⟨by kernel_rfl, rfl⟩) (by assumption) ?_
    try simp only [Act.put, List.setIfInBounds_toArray, List.set_cons_zero, List.set_cons_succ]
    refine wpAnyH_take (i := 21) (oi := ⟨some 25, _, _, _, _, _⟩) rfl (by kernel_rfl) (by kernel_rfl) (by kernel_rfl) (fun _ _ _ h => h) (Or.inr ⟨by kernel_rfl, rfl⟩) (by assumption) ?_
    try simp only [Act.put, List.setIfInBounds_toArray, List.set_cons_zero, List.set_cons_succ]
    refine wpAnyH_take (i := 22) (oi := ⟨some 26, _, _, _, _, _⟩) (v := ?_) rfl (by kernel_rfl) (by kernel_rfl) (by kernel_rfl) (fun _ _ _ h => h) (Or.inl ⟨by kernel_rfl, ?_⟩) (by assumption) ?_
    rotate_left
    · intro W hSw
      try dsimp only at hSw
      go_simp
      all_goals (with_reducible rfl)
    try simp only [Act.put, List.setIfInBounds_toArray, List.set_cons_zero, List.set_cons_succ]
    refine wpAnyH_take (i := 23) (oi := ⟨some 3, _, _, _, _, _⟩) (v := ?_) rfl (by kernel_rfl) (by kernel_rfl) (by kernel_rfl) (fun _ _ _ h => h) (Or.inl ⟨by kernel_rfl, ?_⟩) (by assumption) ?_
    rotate_left
    · intro W hSw
      try dsimp only at hSw
      go_simp
      all_goals (with_reducible rfl)
    try simp only [Act.put, List.setIfInBounds_toArray, List.set_cons_zero, List.set_cons_succ]
    refine wpAnyH_done (by kernel_rfl) ?_ _
    go_wp2
    go_ret
    exact ⟨_, rfl, fun _ => trivial, HB.out.trans (HBC.out.mono HB.out.size)⟩
  | false =>
    rw [e1] at HEQ
    go_enter Try.func86, Try.ntmps86
    go_wp2
    refine wp_region_held_drew (S := fun W => (W.cell? ⟨b, 17, none⟩ = some (.slice T.A T.z.length T.c) ∧ W.cell? ⟨b, 0, none⟩ = some (.slice T.y.1 T.q.name.length T.y.2) ∧ W.cell? ⟨tb, 0, none⟩ = some (.pointer (some ⟨b, 0, none⟩)) ∧ W.cell? ⟨w.heap.size, 0, none⟩ = some (.slice x.A r.name.length x.c) ∧ W.cell? ⟨w.heap.size, 1, none⟩ = some (.int .i64 r.kind))) (by kernel_rfl) (by exact HSX.out _ HBC.out) (fun hHeld => ?_)
    refine wpAnyH_take (i := 0) (oi := ⟨some 4, _, _, _, _, _⟩) (v := ?_) rfl (by kernel_rfl) (by kernel_rfl) (by kernel_rfl) (fun _ _ _ h => h) (Or.inl ⟨by kernel_rfl, ?_⟩) (by assumption) ?_
    rotate_left
    · intro W hSw
      try dsimp only at hSw
      go_simp
      all_goals (with_reducible rfl)
    try simp only [Act.put, List.setIfInBounds_toArray, List.set_cons_zero, List.set_cons_succ]
    refine wpAnyH_take (i := 1) (oi := ⟨some 5, _, _, _, _, _⟩) (v := ?_) rfl (by kernel_rfl) (by kernel_rfl) (by kernel_rfl) (fun _ _ _ h => h) (Or.inl ⟨by kernel_rfl, ?_⟩) (by assumption) ?_
    rotate_left
    · intro W hSw
      try dsimp only at hSw
      go_simp
      all_goals (with_reducible rfl)
    try simp only [Act.put, List.setIfInBounds_toArray, List.set_cons_zero, List.set_cons_succ]
    refine wpAnyH_take (i := 2) (oi := ⟨some 6, _, _, _, _, _⟩) (v := ?_) rfl (by kernel_rfl) (by kernel_rfl) (by kernel_rfl) (fun _ _ _ h => h) (Or.inl ⟨by kernel_rfl, ?_⟩) (by assumption) ?_
    rotate_left
    · intro W hSw
      try dsimp only at hSw
      go_simp
      all_goals (with_reducible rfl)
    try simp only [Act.put, List.setIfInBounds_toArray, List.set_cons_zero, List.set_cons_succ]
    refine wpAnyH_take (i := 3) (oi := ⟨some 7, _, _, _, _, _⟩) (v := ?_) rfl (by kernel_rfl) (by kernel_rfl) (by kernel_rfl) (fun _ _ _ h => h) (Or.inl ⟨by kernel_rfl, ?_⟩) (by assumption) ?_
    rotate_left
    · intro W hSw
      try dsimp only at hSw
      go_simp
      all_goals (with_reducible rfl)
    try simp only [Act.put, List.setIfInBounds_toArray, List.set_cons_zero, List.set_cons_succ]
    refine wpAnyH_take (i := 4) (oi := ⟨some 8, _, _, _, _, _⟩) (v := ?_) rfl (by kernel_rfl) (by kernel_rfl) (by kernel_rfl) (fun _ _ _ h => h) (Or.inl ⟨by kernel_rfl, ?_⟩) (by assumption) ?_
    rotate_left
    · intro W hSw
      try dsimp only at hSw
      go_simp
      all_goals (with_reducible rfl)
    try simp only [Act.put, List.setIfInBounds_toArray, List.set_cons_zero, List.set_cons_succ]
    refine wpAnyH_take (i := 5) (oi := ⟨some 9, _, _, _, _, _⟩) (v := ?_) rfl (by kernel_rfl) (by kernel_rfl) (by kernel_rfl) (fun _ _ _ h => h) (Or.inl ⟨by kernel_rfl, ?_⟩) (by assumption) ?_
    rotate_left
    · intro W hSw
      try dsimp only at hSw
      go_simp
      all_goals (with_reducible rfl)
    try simp only [Act.put, List.setIfInBounds_toArray, List.set_cons_zero, List.set_cons_succ]
    refine wpAnyH_take (i := 6) (oi := ⟨some 10, _, _, _, _, _⟩) (v := ?_) rfl (by kernel_rfl) (by kernel_rfl) (by kernel_rfl) (fun _ _ _ h => h) (Or.inl ⟨by kernel_rfl, ?_⟩) (by assumption) ?_
    rotate_left
    · intro W hSw
      try dsimp only at hSw
      go_simp
      all_goals (with_reducible rfl)
    try simp only [Act.put, List.setIfInBounds_toArray, List.set_cons_zero, List.set_cons_succ]
    refine wpAnyH_take (i := 7) (oi := ⟨some 11, _, _, _, _, _⟩) (v := ?_) rfl (by kernel_rfl) (by kernel_rfl) (by kernel_rfl) (fun _ _ _ h => h) (Or.inl ⟨by kernel_rfl, ?_⟩) (by assumption) ?_
    rotate_left
    · intro W hSw
      try dsimp only at hSw
      go_simp
      all_goals (with_reducible rfl)
    try simp only [Act.put, List.setIfInBounds_toArray, List.set_cons_zero, List.set_cons_succ]
    refine wpAnyH_take (i := 8) (oi := ⟨some 12, _, _, _, _, _⟩) (v := ?_) rfl (by kernel_rfl) (by kernel_rfl) (by kernel_rfl) (fun _ _ _ h => h) (Or.inl ⟨by kernel_rfl, ?_⟩) (by assumption) ?_
    rotate_left
    · intro W hSw
      try dsimp only at hSw
      go_simp
      all_goals (with_reducible rfl)
    try simp only [Act.put, List.setIfInBounds_toArray, List.set_cons_zero, List.set_cons_succ]
    refine wpAnyH_take (i := 9) (oi := ⟨some 13, _, _, _, _, _⟩) (v := ?_) rfl (by kernel_rfl) (by kernel_rfl) (by kernel_rfl) (fun _ _ _ h => h) (Or.inl ⟨by kernel_rfl, ?_⟩) (by assumption) ?_
    rotate_left
    · intro W hSw
      try dsimp only at hSw
      go_simp
      all_goals (with_reducible rfl)
    try simp only [Act.put, List.setIfInBounds_toArray, List.set_cons_zero, List.set_cons_succ]
    refine wpAnyH_ready (rs := [10]) (by kernel_rfl) (by simp) ?_
    refine AllReadyH.cons (o := { dst := some 14, op := Go.Op.call { callee := Go.Callee.value (Go.Operand.func 24), args := #[Go.Operand.tmp 9, Go.Operand.tmp 13], argTypes := #[23, 23] }, type := 4, pos := "from.go:144", after := #[{ on := 5, ground := Go.Ground.data }, { on := 9, ground := Go.Ground.data }, { on := 3, ground := Go.Ground.chain }, { on := 3, ground := Go.Ground.guard }], guard := some (3, true) }) rfl (fun K hK => ?_) AllReadyH.nil
    go_simp
    refine (HEQ.out _ HBC.out).mono ?_
    rintro e w4 ⟨rfl, hb4⟩
    have HBC := Lib.hid (HBC.out.trans (hb4.mono HBC.out.size))
    clear hb4
    refine hK.out _ _ (by exact HSX.out _ HBC.out) (fun hHeld2 => ?_)
    clear hK K hHeld
    have hHeld := hHeld2
    clear hHeld2
    try simp only [Act.put, List.setIfInBounds_toArray, List.set_cons_zero, List.set_cons_succ]
    refine wpAnyH_take (i := 11) (oi := ⟨some 15, _, _, _, _, _⟩) (v := ?_) rfl (by kernel_rfl) (by kernel_rfl) (by kernel_rfl) (fun _ _ _ h => h) (Or.inl ⟨by kernel_rfl, ?_⟩) (by assumption) ?_
    rotate_left
    · intro W hSw
      try dsimp only at hSw
      go_simp
      all_goals (with_reducible rfl)
    try simp only [Act.put, List.setIfInBounds_toArray, List.set_cons_zero, List.set_cons_succ]
    refine wpAnyH_take (i := 12) (oi := ⟨some 16, _, _, _, _, _⟩) (v := ?_) rfl (by kernel_rfl) (by kernel_rfl) (by kernel_rfl) (fun _ _ _ h => h) (Or.inl ⟨by kernel_rfl, ?_⟩) (by assumption) ?_
    rotate_left
    · intro W hSw
      try dsimp only at hSw
      go_simp
      all_goals (with_reducible rfl)
    try simp only [Act.put, List.setIfInBounds_toArray, List.set_cons_zero, List.set_cons_succ]
    refine wpAnyH_take (i := 13) (oi := ⟨some 17, _, _, _, _, _⟩) (v := ?_) rfl (by kernel_rfl) (by kernel_rfl) (by kernel_rfl) (fun _ _ _ h => h) (Or.inl ⟨by kernel_rfl, ?_⟩) (by assumption) ?_
    rotate_left
    · intro W hSw
      try dsimp only at hSw
      go_simp
      all_goals (with_reducible rfl)
    try simp only [Act.put, List.setIfInBounds_toArray, List.set_cons_zero, List.set_cons_succ]
    refine wpAnyH_take (i := 14) (oi := ⟨some 18, _, _, _, _, _⟩) (v := ?_) rfl (by kernel_rfl) (by kernel_rfl) (by kernel_rfl) (fun _ _ _ h => h) (Or.inl ⟨by kernel_rfl, ?_⟩) (by assumption) ?_
    rotate_left
    · intro W hSw
      try dsimp only at hSw
      go_simp
      all_goals (with_reducible rfl)
    try simp only [Act.put, List.setIfInBounds_toArray, List.set_cons_zero, List.set_cons_succ]
    refine wpAnyH_take (i := 15) (oi := ⟨some 19, _, _, _, _, _⟩) (v := ?_) rfl (by kernel_rfl) (by kernel_rfl) (by kernel_rfl) (fun _ _ _ h => h) (Or.inl ⟨by kernel_rfl, ?_⟩) (by assumption) ?_
    rotate_left
    · intro W hSw
      try dsimp only at hSw
      go_simp
      all_goals (with_reducible rfl)
    try simp only [Act.put, List.setIfInBounds_toArray, List.set_cons_zero, List.set_cons_succ]
    refine wpAnyH_take (i := 16) (oi := ⟨some 20, _, _, _, _, _⟩) (v := ?_) rfl (by kernel_rfl) (by kernel_rfl) (by kernel_rfl) (fun _ _ _ h => h) (Or.inl ⟨by kernel_rfl, ?_⟩) (by assumption) ?_
    rotate_left
    · intro W hSw
      try dsimp only at hSw
      go_simp
      all_goals (with_reducible rfl)
    try simp only [Act.put, List.setIfInBounds_toArray, List.set_cons_zero, List.set_cons_succ]
    refine wpAnyH_take (i := 17) (oi := ⟨some 21, _, _, _, _, _⟩) (v := ?_) rfl (by kernel_rfl) (by kernel_rfl) (by kernel_rfl) (fun _ _ _ h => h) (Or.inl ⟨by kernel_rfl, ?_⟩) (by assumption) ?_
    rotate_left
    · intro W hSw
      try dsimp only at hSw
      go_simp
      all_goals (with_reducible rfl)
    try simp only [Act.put, List.setIfInBounds_toArray, List.set_cons_zero, List.set_cons_succ]
    refine wpAnyH_take (i := 18) (oi := ⟨some 22, _, _, _, _, _⟩) (v := ?_) rfl (by kernel_rfl) (by kernel_rfl) (by kernel_rfl) (fun _ _ _ h => h) (Or.inl ⟨by kernel_rfl, ?_⟩) (by assumption) ?_
    rotate_left
    · intro W hSw
      try dsimp only at hSw
      go_simp
      all_goals (with_reducible rfl)
    try simp only [Act.put, List.setIfInBounds_toArray, List.set_cons_zero, List.set_cons_succ]
    refine wpAnyH_take (i := 19) (oi := ⟨some 23, _, _, _, _, _⟩) (v := ?_) rfl (by kernel_rfl) (by kernel_rfl) (by kernel_rfl) (fun _ _ _ h => h) (Or.inl ⟨by kernel_rfl, ?_⟩) (by assumption) ?_
    rotate_left
    · intro W hSw
      try dsimp only at hSw
      go_simp
      all_goals (with_reducible rfl)
    try simp only [Act.put, List.setIfInBounds_toArray, List.set_cons_zero, List.set_cons_succ]
    refine wpAnyH_take (i := 20) (oi := ⟨some 24, _, _, _, _, _⟩) (v := ?_) rfl (by kernel_rfl) (by kernel_rfl) (by kernel_rfl) (fun _ _ _ h => h) (Or.inl ⟨by kernel_rfl, ?_⟩) (by assumption) ?_
    rotate_left
    · intro W hSw
      try dsimp only at hSw
      go_simp
      all_goals (with_reducible rfl)
    try simp only [Act.put, List.setIfInBounds_toArray, List.set_cons_zero, List.set_cons_succ]
    refine wpAnyH_ready (rs := [21]) (by kernel_rfl) (by simp) ?_
    refine AllReadyH.cons (o := { dst := some 25, op := Go.Op.call { callee := Go.Callee.value (Go.Operand.func 81), args := #[Go.Operand.tmp 22, Go.Operand.tmp 24], argTypes := #[23, 23] }, type := 4, pos := "from.go:144", after := #[{ on := 18, ground := Go.Ground.data }, { on := 20, ground := Go.Ground.data }, { on := 13, ground := Go.Ground.chain }, { on := 13, ground := Go.Ground.guard }], guard := some (13, true) }) rfl (fun K hK => ?_) AllReadyH.nil
    go_simp
    refine (HUN.out _ HBC.out).mono ?_
    rintro e w5 ⟨rfl, hb5⟩
    have HBC := Lib.hid (HBC.out.trans (hb5.mono HBC.out.size))
    clear hb5
    refine hK.out _ _ (by exact HSX.out _ HBC.out) (fun hHeld2 => ?_)
    clear hK K hHeld
    have hHeld := hHeld2
    clear hHeld2
    try simp only [Act.put, List.setIfInBounds_toArray, List.set_cons_zero, List.set_cons_succ]
    refine wpAnyH_take (i := 22) (oi := ⟨some 26, _, _, _, _, _⟩) (v := ?_) rfl (by kernel_rfl) (by kernel_rfl) (by kernel_rfl) (fun _ _ _ h => h) (Or.inl ⟨by kernel_rfl, ?_⟩) (by assumption) ?_
    rotate_left
    · intro W hSw
      try dsimp only at hSw
      go_simp
      all_goals (with_reducible rfl)
    try simp only [Act.put, List.setIfInBounds_toArray, List.set_cons_zero, List.set_cons_succ]
    refine wpAnyH_take (i := 23) (oi := ⟨some 3, _, _, _, _, _⟩) (v := ?_) rfl (by kernel_rfl) (by kernel_rfl) (by kernel_rfl) (fun _ _ _ h => h) (Or.inl ⟨by kernel_rfl, ?_⟩) (by assumption) ?_
    rotate_left
    · intro W hSw
      try dsimp only at hSw
      go_simp
      all_goals (with_reducible rfl)
    try simp only [Act.put, List.setIfInBounds_toArray, List.set_cons_zero, List.set_cons_succ]
    refine wpAnyH_done (by kernel_rfl) ?_ _
    go_wp2
    go_ret
    exact ⟨_, rfl, fun _ => trivial, HB.out.trans (HBC.out.mono HB.out.size)⟩

set_option maxRecDepth 20000 in
set_option maxHeartbeats 2000000 in
theorem index_soa (w : World) (nb : Nat) (A : Option Addr) (c : Nat) (ps : List (RV × Rt)) (hp : RsAt w w.heap.size A ps) (hl : ps.length ≤ 1000) (hf : ∀ W, Below w.heap.size w W → ∀ p ∈ ps, Calls Try.prog 80 #[p.1.val p.2, .pointer (some ⟨nb, 0, none⟩)] W (YesIf W (isSoa p.2))) :
    Calls Try.prog 79 #[.slice A ps.length c, .func (.func 80) #[] #[.pointer (some ⟨nb, 0, none⟩)]] w (FoundR w ps isSoa) := by
  have HP := Lib.hid hp
  have HF := Lib.hid hf
  clear hp hf
  go_enter Try.func79, Try.ntmps79
  go_wp2
  go_loopw [8] (GoneRel w ps.length) (fun i _ => ps.length - (intOf i).toNat)
  case atStart => exact ⟨0, Nat.zero_le _, rfl, Below.refl _ _⟩
  case round =>
    obtain ⟨k, hk, rfl, hb⟩ := hrel
    have HB := Lib.hid hb
    have hz := hb.size
    clear hb
    by_cases hlt : k < ps.length
    · obtain ⟨b, off, rfl, hbH, hd, q0, q1, q2, q3, q4, q5, q6, q7, q8⟩ := (HP.out.below HB.out).at_ hlt
      have HCL := Lib.hid (HF.out wr HB.out (ps[k]) (List.getElem_mem hlt))
      have HQ := Lib.hid (fun (h : isSoa (ps[k]).2) => (show ∃ (j : Nat) (hj : j < ps.length), (k : Int) = (j : Int) ∧ isSoa (ps[j]).2 from ⟨k, hlt, rfl, h⟩))
      clear hd
      revert q0 q1 q2 q3 q4 q5 q6 q7 q8 HCL HQ
      generalize ps[k] = p
      obtain ⟨x, r⟩ := p
      intro q0 q1 q2 q3 q4 q5 q6 q7 q8 HCL HQ
      dsimp only at *
      go_wp2_with fail
      refine HCL.out.mono ?_
      rintro e w1 ⟨bv, rfl, hv, hb1⟩
      have HB1 := Lib.hid (HB.out.trans (hb1.mono hz))
      have HV := Lib.hid hv
      clear hb1 hv
      cases bv with
      | true =>
        go_wp2
        go_ret
        exact ⟨_, rfl, .inr (HQ.out (HV.out trivial)), HB1.out⟩
      | false =>
        go_wp2
        exact ⟨⟨k + 1, by omega, by go_num, HB1.out⟩, by simp [intOf]; omega⟩
    · obtain rfl : k = ps.length := by omega
      go_wp2
      go_ret
      exact ⟨_, rfl, .inl rfl, HB.out⟩

set_option maxRecDepth 20000 in
set_option maxHeartbeats 2000000 in
theorem index_refers (w : World)  (A : Option Addr) (c : Nat) (ps : List (RV × Rt)) (hp : RsAt w w.heap.size A ps) (hl : ps.length ≤ 1000) (hf : ∀ W, Below w.heap.size w W → ∀ p ∈ ps, Calls Try.prog 105 #[p.1.val p.2] W (YesIf W (anyR p.2))) :
    Calls Try.prog 79 #[.slice A ps.length c, .func (.func 105) #[] #[]] w (FoundR w ps anyR) := by
  have HP := Lib.hid hp
  have HF := Lib.hid hf
  clear hp hf
  go_enter Try.func79, Try.ntmps79
  go_wp2
  go_loopw [8] (GoneRel w ps.length) (fun i _ => ps.length - (intOf i).toNat)
  case atStart => exact ⟨0, Nat.zero_le _, rfl, Below.refl _ _⟩
  case round =>
    obtain ⟨k, hk, rfl, hb⟩ := hrel
    have HB := Lib.hid hb
    have hz := hb.size
    clear hb
    by_cases hlt : k < ps.length
    · obtain ⟨b, off, rfl, hbH, hd, q0, q1, q2, q3, q4, q5, q6, q7, q8⟩ := (HP.out.below HB.out).at_ hlt
      have HCL := Lib.hid (HF.out wr HB.out (ps[k]) (List.getElem_mem hlt))
      have HQ := Lib.hid (fun (h : anyR (ps[k]).2) => (show ∃ (j : Nat) (hj : j < ps.length), (k : Int) = (j : Int) ∧ anyR (ps[j]).2 from ⟨k, hlt, rfl, h⟩))
      clear hd
      revert q0 q1 q2 q3 q4 q5 q6 q7 q8 HCL HQ
      generalize ps[k] = p
      obtain ⟨x, r⟩ := p
      intro q0 q1 q2 q3 q4 q5 q6 q7 q8 HCL HQ
      dsimp only at *
      go_wp2_with fail
      refine HCL.out.mono ?_
      rintro e w1 ⟨bv, rfl, hv, hb1⟩
      have HB1 := Lib.hid (HB.out.trans (hb1.mono hz))
      have HV := Lib.hid hv
      clear hb1 hv
      cases bv with
      | true =>
        go_wp2
        go_ret
        exact ⟨_, rfl, .inr (HQ.out trivial), HB1.out⟩
      | false =>
        go_wp2
        exact ⟨⟨k + 1, by omega, by go_num, HB1.out⟩, by simp [intOf]; omega⟩
    · obtain rfl : k = ps.length := by omega
      go_wp2
      go_ret
      exact ⟨_, rfl, .inl rfl, HB.out⟩

set_option maxRecDepth 20000 in
set_option maxHeartbeats 2000000 in
theorem index_referral (w : World) (tb : Nat) (A : Option Addr) (c : Nat) (ps : List (RV × Rt)) (hp : RsAt w w.heap.size A ps) (hl : ps.length ≤ 1000) (hf : ∀ W, Below w.heap.size w W → ∀ p ∈ ps, Calls Try.prog 86 #[p.1.val p.2, .pointer (some ⟨tb, 0, none⟩)] W (YesIf W (anyR p.2))) :
    Calls Try.prog 79 #[.slice A ps.length c, .func (.func 86) #[] #[.pointer (some ⟨tb, 0, none⟩)]] w (FoundR w ps anyR) := by
  have HP := Lib.hid hp
  have HF := Lib.hid hf
  clear hp hf
  go_enter Try.func79, Try.ntmps79
  go_wp2
  go_loopw [8] (GoneRel w ps.length) (fun i _ => ps.length - (intOf i).toNat)
  case atStart => exact ⟨0, Nat.zero_le _, rfl, Below.refl _ _⟩
  case round =>
    obtain ⟨k, hk, rfl, hb⟩ := hrel
    have HB := Lib.hid hb
    have hz := hb.size
    clear hb
    by_cases hlt : k < ps.length
    · obtain ⟨b, off, rfl, hbH, hd, q0, q1, q2, q3, q4, q5, q6, q7, q8⟩ := (HP.out.below HB.out).at_ hlt
      have HCL := Lib.hid (HF.out wr HB.out (ps[k]) (List.getElem_mem hlt))
      have HQ := Lib.hid (fun (h : anyR (ps[k]).2) => (show ∃ (j : Nat) (hj : j < ps.length), (k : Int) = (j : Int) ∧ anyR (ps[j]).2 from ⟨k, hlt, rfl, h⟩))
      clear hd
      revert q0 q1 q2 q3 q4 q5 q6 q7 q8 HCL HQ
      generalize ps[k] = p
      obtain ⟨x, r⟩ := p
      intro q0 q1 q2 q3 q4 q5 q6 q7 q8 HCL HQ
      dsimp only at *
      go_wp2_with fail
      refine HCL.out.mono ?_
      rintro e w1 ⟨bv, rfl, hv, hb1⟩
      have HB1 := Lib.hid (HB.out.trans (hb1.mono hz))
      have HV := Lib.hid hv
      clear hb1 hv
      cases bv with
      | true =>
        go_wp2
        go_ret
        exact ⟨_, rfl, .inr (HQ.out trivial), HB1.out⟩
      | false =>
        go_wp2
        exact ⟨⟨k + 1, by omega, by go_num, HB1.out⟩, by simp [intOf]; omega⟩
    · obtain rfl : k = ps.length := by omega
      go_wp2
      go_ret
      exact ⟨_, rfl, .inl rfl, HB.out⟩

set_option maxRecDepth 20000 in
set_option maxHeartbeats 1000000 in
theorem refers_any (w0 w : World) (T : Te) (b : Nat) (an au ex : Sec) (v : Value) (xs : List FV) (h : TAt w0 T b an au ex v xs w) (ok : TeOk w0 T) : Calls Try.prog 84 #[.pointer (some ⟨b, 0, none⟩)] w (SomeBool w) := by
  have c13 : w.cell? ⟨b, 13, none⟩ = some (.slice T.m.s1.A T.m.s1.ps.length T.m.s1.c) := h.blk.cell 13
  have HI := Lib.hid (index_refers w T.m.s1.A T.m.s1.c T.m.s1.ps ((ok.m.s1.below h.below).mono h.size) (ok.mi.rl 1) (fun W _ p _ => refers1_any W p.1 p.2))
  have HC := Lib.hid (show Calls Try.prog 104 #[.slice T.m.s1.A T.m.s1.ps.length T.m.s1.c, .func (.func 105) #[] #[]] w (SomeBool w) from by
    clear h ok c13
    go_enter Try.func104, Try.ntmps104
    go_wp2_with fail
    refine HI.out.mono ?_
    rintro e w1 ⟨i, rfl, _, hb1⟩
    go_wp2
    go_ret
    exact ⟨_, rfl, hb1⟩)
  clear h ok HI
  go_enter Try.func84, Try.ntmps84
  go_wp2_with fail
  refine HC.out.mono ?_
  rintro e w1 ⟨bv, rfl, hb1⟩
  go_wp2
  go_ret
  exact ⟨_, rfl, hb1⟩

end Go.Proofs.Ythppgofpbpjglaa

namespace Go.Proofs.Ythppgofpbpjglaa
open Go.RowKit

theorem wp_store_whole {P : Program} {w : World} {op : Oper} {a : Act} {K : Act → World → Prop} {Q : Exit → Act → World → Prop} (ty : TypeId) (x y : Operand) (ho : op.op = .store ty x y)
    (b : Nat) (cells : List Value) (hx : a.eval x = .pointer (some ⟨b, 0, none⟩)) (hy : a.eval y = .agg cells.toArray) (t : TypeId) (L : List Value) (hw : Whole w b t L) (hl : L.length = cells.length)
    (hi : (P.info? ty).map (·.size) = some cells.length) (h1 : ∀ v ∈ cells, v.oneCell' = true)
    (h : ∀ V, Whole V b t cells → Grew (fun j => j = b) w V → V.heap.size = w.heap.size → K (a.put op.dst undef) V) : Oper.wp P op a w K Q :=
  wp_store_mid ty x y ho b 0 cells.toArray hx hy (by simpa using hw.there (o := 0) (n := cells.length) (by omega)) (by simpa using hi) (all_oneCell_toArray h1)
    (h _ (by
      have h2 := hw.setCells cells 0 (by omega)
      have e : splice L 0 cells = cells := by
        unfold splice
        rw [List.take_zero, List.nil_append, Nat.zero_add, List.drop_eq_nil_of_le (by omega), List.append_nil]
      rwa [e] at h2) (grew_setCells cells 0 (Grew.refl _ _) (.inl rfl)) (size_setCells _ _ _))
theorem fact_sizeT : (Try.prog.info? 50).map (·.size) = some 13 := by kernel_rfl
theorem underN_trans {n z y : List (List UInt8)} (h1 : underN n z = true) (h2 : underN z y = true) : underN n y = true := by
  unfold underN at h1 h2 ⊢
  simp only [Bool.and_eq_true, decide_eq_true_eq] at h1 h2 ⊢
  refine ⟨by omega, ?_⟩
  have e1 := h1.2
  have e2 := h2.2
  unfold eqN lowN at e1 e2 ⊢
  simp only [decide_eq_true_eq] at e1 e2 ⊢
  have e3 := congrArg (List.drop (z.length - y.length)) e1
  rw [← List.map_drop, List.drop_drop, ← List.map_drop, e2] at e3
  rw [← e3]
  congr 2
  omega
theorem setF_one {r : Rt} {n : List (List UInt8)} {k : Int} (h : selR n k r = true) : setF [r] n k = ([r.data], r.ttl) := by
  unfold setF
  rw [List.filter_cons_of_pos h, List.filter_nil, List.foldl_cons, List.foldl_nil]
  unfold stepS hasD
  simp
theorem eqN_same (n : List (List UInt8)) : eqN n n = true := by unfold eqN; simp
theorem KeptT.of_setF {w w' : World} {b : Nat} {L : List Value} (hw : Whole w b 50 L) (hg : Grew (fun j => j = b) w w') : KeptT w w' := fun g o ho ht => by
  refine hg.block g (lt_of_some ho) fun e => ?_
  subst e
  unfold Whole at hw
  rw [hw] at ho
  exact ht _ _ _ (Option.some.inj ho).symm (.inl rfl)

/-- nothing's boxes. -/
structure NoB (w : World) (A : Option Addr) (c : Nat) (n : List (List UInt8)) (g : Nat) (L : List Value) (zA : Option Addr) (zc : Nat) (zn : List (List UInt8)) (yd : DV) (d : Dt) (W : World) : Prop where
  nb : Whole W w.heap.size 23 [.slice A n.length c]
  fb : Whole W g 50 L
  z : W.ownsRow w.heap.size 9 1 (.slice zA zn.length zc) zn.length (zn.map sv)
  d : OwnD W w.heap.size yd d
  below : Below w.heap.size w W
  gg : w.heap.size ≤ g
section
variable {w W V : World} {A : Option Addr} {c : Nat} {n : List (List UInt8)} {g : Nat} {L L' : List Value} {zA : Option Addr} {zc : Nat} {zn : List (List UInt8)} {yd : DV} {d : Dt}
theorem NoB.step (h : NoB w A c n g L zA zc zn yd d W) (hb : Below W.heap.size W V) : NoB w A c n g L zA zc zn yd d V :=
  ⟨h.nb.below hb h.nb.lt, h.fb.below hb h.fb.lt, own_keep h.z fun j e => hb.block j (h.z.lt j e).2, h.d.keepB fun j _ hj => hb.block j hj, h.below.trans (hb.mono h.below.size), h.gg⟩
theorem NoB.put (h : NoB w A c n g L zA zc zn yd d W) (hV : Whole V g 50 L') (hG : Grew (fun j => j = g) W V) : NoB w A c n g L' zA zc zn yd d V :=
  have k := KeptT.of_setF h.fb hG
  ⟨k.whole h.nb strs_notT, hV, k.own h.z str_notT, h.d.keptT k, h.below.trans (hG.below (fun j e => by rw [e]; exact h.gg) h.below.size), h.gg⟩
end

/-- A fact that tells of nothing, by a record. -/
theorem told_no {T : Te} {r : Rt} (hr : r ∈ T.m.msg.all) (h1 : r.cls = 1) (h6 : r.kind = 6) (hu : underN r.name T.z = true) {n : List (List UInt8)} {typ knd rank ttl : Int} (hk : knd = 2 ∨ knd = 3) (hf : soundF ⟨n, ⟨typ, knd, rank, T.now, ttl⟩, [], r.name, r.data⟩ = true) :
    ToldF T.m.msg T.z T.now ⟨n, ⟨typ, knd, rank, T.now, ttl⟩, [], r.name, r.data⟩ := by
  have hun : underN n r.name = true := by
    obtain ⟨_, h2⟩ := soundF_parts hf
    rcases h2 with ⟨h2, _⟩ | ⟨_, h2⟩
    · have h3 : knd = 1 := h2
      omega
    · exact (noB_parts h2).2.2.2.2.2.1
  exact toldF_no hf (underN_trans hun hu) rfl (by show knd ≠ 1; omega) hr h1 h6 (eqN_same _) rfl hu
/-- What holds when the fact is made. -/
def NothRel (w : World) (A : Option Addr) (c : Nat) (n : List (List UInt8)) (r : Rt) (yd : DV) (t9 : Value) (wx : World) : Prop :=
  ∃ g zA zc, t9 = .pointer (some ⟨g, 0, none⟩) ∧ NoB w A c n g [.slice none 0 0, .int .i64 0, .int .i64 3, .int .i64 2, .int .i64 0, .int .i64 0, .slice none 0 0, .slice zA r.name.length zc, .slice yd.Ab r.data.bytes.length yd.cb, .slice yd.Ah r.data.host.length yd.ch, .slice yd.Am r.data.mail.length yd.cm, .slice yd.An r.data.nums.length yd.cn, .slice yd.At r.data.texts.length yd.ct] zA zc r.name yd r.data wx

set_option maxRecDepth 20000 in
set_option maxHeartbeats 16000000 in
theorem nothing_any (w0 w : World) (T : Te) (b : Nat) (an au ex : Sec) (v : Value) (xs : List FV) (h : TAt w0 T b an au ex v xs w) (ok : TeOk w0 T) (hs : SecOk w0 T au T.m.msg.au) (hl : xs.length ≤ 8000) (A : Option Addr) (c : Nat) (n : List (List UInt8)) (hn : Held w0 w A c n) (hns : soundN n = true) (hqk : (Lit.int .i64 T.q.kind).wf = true) :
    Calls Try.prog 43 #[.pointer (some ⟨b, 0, none⟩), .slice A n.length c] w (fun e w' => e = .returned (.tuple #[]) ∧ TellOut w0 T b an au ex xs 1 w w') := by
  have hsm := hs.small ok (fun r hr => au_all hr)
  have HN1 := Lib.hid ((Below.refl w.heap.size w).alloc (Nat.le_refl _) (.cells #[.slice A n.length c] 23))
  have HNB := Lib.hid (Whole.made w [.slice A n.length c] 23)
  have HT := Lib.hid (fun W (hb : Below w.heap.size w W) => h.step hb)
  have HIX := Lib.hid (show Calls Try.prog 79 #[.slice au.A au.ps.length au.c, .func (.func 80) #[] #[.pointer (some ⟨w.heap.size, 0, none⟩)]] (w.alloc (.cells #[.slice A n.length c] 23)) (FoundR (w.alloc (.cells #[.slice A n.length c] 23)) au.ps isSoa) from
    index_soa (w.alloc (.cells #[.slice A n.length c] 23)) w.heap.size au.A au.c au.ps (secRs hs (h.step HN1.out).au (h.step HN1.out).below) hs.n (fun W hb p hp => nothing1_any W w.heap.size A c n (HNB.out.below hb HNB.out.lt) ((((hn.step HN1.out).row (h.step HN1.out).below).below hb).mono hb.size) hn.cap (soundN_sz hns) p.1 p.2
      (((hs.r p hp).below ((h.step HN1.out).below.trans (hb.mono (h.step HN1.out).size))).mono (Nat.le_trans (h.step HN1.out).size hb.size)) (soundN_sz (hsm p hp).1.n)))
  have HSEC := Lib.hid (fun W (hb : Below w.heap.size w W) => secRs hs (h.step hb).au (h.step hb).below)
  have HSO := Lib.hid hs
  have HSM := Lib.hid hsm
  have HAPP := Lib.hid (fun (W : World) (hb : Below w.heap.size w W) (x : FV) (hp : FPart W w0.heap.size x) (hi : FPIn x) (hT : soundF (x.fc n T.now) = true → ToldF T.m.msg T.z T.now (x.fc n T.now)) =>
    add_any w0 W T b an au ex v xs (h.step hb) ok (by omega) A c n (hn.step hb) hns x hp hi hT)
  have HRF := Lib.hid (fun (W : World) (hb : Below w.heap.size w W) => refers_any w0 W T b an au ex v xs (h.step hb) ok)
  have HWQ := Lib.hid hqk
  have HSZ := Lib.hid h.size
  have c20 : (w.alloc (.cells #[.slice A n.length c] 23)).cell? ⟨b, 20, none⟩ = some (.slice au.A au.ps.length au.c) := (h.step HN1.out).blk.cell 20
  have HFIN := Lib.hid (show ∀ W, Below w.heap.size w W → TellOut w0 T b an au ex xs 1 w W from fun W hb => ⟨v, xs, h.step hb, Nat.le_succ _, KeptT.below hb, hb.size⟩)
  have HAL := Lib.hid hs.n
  clear h ok hs hsm hn hns hqk
  go_enter Try.func43, Try.ntmps43
  go_wp2_with fail
  refine HIX.out.mono ?_
  rintro e w1 ⟨i, rfl, hi, hb1⟩
  have HB1 := Lib.hid (HN1.out.trans (hb1.mono HN1.out.size))
  have HNB1 := Lib.hid (HNB.out.below hb1 HNB.out.lt)
  have d20 : w1.cell? ⟨b, 20, none⟩ = some (.slice au.A au.ps.length au.c) := (HT.out _ HB1.out).blk.cell 20
  clear hb1 HIX c20 HN1 HNB
  rcases hi with rfl | ⟨k, hk, rfl, hsoa⟩
  · go_wp2
    first | go_end0 | refine bodyPost_ret (results_none rfl _ _ _) rfl ?_
    exact ⟨rfl, HFIN.out _ HB1.out⟩
  have t0 : decide ((k : Int) < 0) = false := decide_eq_false (by omega)
  obtain ⟨bp, off, hA, hbH, hcs⟩ := (HSEC.out w1 HB1.out).1.part cellsR_len (by omega) hk
  have HRA := Lib.hid ((HSEC.out w1 HB1.out).2 _ (List.getElem_mem hk))
  have HM := Lib.hid (HSO.out.i _ (List.getElem_mem hk))
  have HSR := Lib.hid (HSM.out _ (List.getElem_mem hk))
  have HSS := Lib.hid hsoa
  have hcap := own_cap (HT.out w1 HB1.out).au
  have hcz := own_capZ (HT.out w1 HB1.out).au
  have hal := HAL.out
  clear hsoa
  revert hcs HRA HM HSR HSS
  generalize au.ps[k] = p
  obtain ⟨x, r⟩ := p
  intro hcs HRA HM HSR HSS
  dsimp only at *
  have HCS := Lib.hid hcs
  have q0 := hcs 0 (.slice x.A r.name.length x.c) rfl
  have q0' : w1.cell? ⟨bp, off + k * 9, none⟩ = some (.slice x.A r.name.length x.c) := q0
  clear hcs q0
  have HSEL := Lib.hid (show selR r.name 6 r = true from by unfold selR; rw [HM.out.2.1, HSS.out, eqN_same]; rfl)
  have HSET := Lib.hid (show ∀ cc, Calls Try.prog 9 #[.slice (some ⟨bp, off + k * 9, none⟩) 1 cc, .slice x.A r.name.length x.c, .int .i64 6] w1 (SetOwn w1 ([r.data], r.ttl)) from fun cc => by
    have h := set_own w1 (some ⟨bp, off + k * 9, none⟩) cc [(x, r)] x.A r.name x.c 6 ⟨fun _ => ⟨bp, off + k * 9, rfl, hbH, fun j u hu => HCS.out j u (by simpa using hu)⟩, fun q hq => by rw [List.mem_singleton.1 hq]; exact HRA.out⟩ HRA.out.n HSR.out.2.1.n (fun q hq => by rw [List.mem_singleton.1 hq]; exact ⟨HSR.out.2.1, HSR.out.2.2.few⟩) (by simp)
    rwa [show recs [(x, r)] = [r] from rfl, setF_one HSEL.out] at h)
  have s1 : (0 : Int) ≤ (k : Int) := by omega
  have s2 : (k : Int) < (au.ps.length : Int) := by omega
  have s3 : (k : Int) + 1 ≤ (au.c : Int) := by omega
  unfold maxLen at hcz
  rw [hA] at d20
  go_wp2_with fail
  refine (HSET.out _).mono ?_
  rintro e w2 ⟨sA, sc, qs, rfl, hq, hat⟩
  have hlen : qs.length = 1 := by rw [← length_dats, hq]; rfl
  obtain ⟨⟨yd, d⟩, rfl⟩ : ∃ q, qs = [q] := List.length_eq_one_iff.1 hlen
  obtain rfl : d = r.data := by
    have h : [d] = [r.data] := hq
    exact List.head_eq_of_cons_eq h
  obtain ⟨yb, yh, ym, yn, yt, cb, ch, cm, cn, ct⟩ := yd
  have hod := hat.each _ (List.mem_singleton.2 rfl)
  have h5 : r.data.nums.length = 5 := by
    have := (soundP HSR.out.1.d).n
    rw [HSS.out] at this
    exact this
  obtain ⟨gn, hgn⟩ := own_some hod.n (by dsimp only; omega)
  dsimp only at hgn
  subst hgn
  obtain ⟨g2, rfl⟩ := own_some hat.row (by simp)
  have HOD := Lib.hid hod
  have HB2 := Lib.hid (HB1.out.trans (hat.below.mono HB1.out.size))
  have HNB2 := Lib.hid (HNB1.out.below hat.below HNB1.out.lt)
  have HSX := Lib.hid (show ∀ W, Below w2.heap.size w2 W → (W.cell? ⟨g2, 0, none⟩ = some (.slice yb r.data.bytes.length cb) ∧ W.cell? ⟨g2, 1, none⟩ = some (.slice yh r.data.host.length ch) ∧ W.cell? ⟨g2, 2, none⟩ = some (.slice ym r.data.mail.length cm) ∧ W.cell? ⟨g2, 3, none⟩ = some (.slice (some ⟨gn, 0, none⟩) r.data.nums.length cn) ∧ W.cell? ⟨g2, 4, none⟩ = some (.slice yt r.data.texts.length ct)) from fun W hb =>
    have ho := own_keep hat.row fun j e => hb.block j (hat.row.lt j e).2
    ⟨own_cell (k := 0) ho (by show 0 < 5; omega), own_cell (k := 1) ho (by show 1 < 5; omega), own_cell (k := 2) ho (by show 2 < 5; omega), own_cell (k := 3) ho (by show 3 < 5; omega), own_cell (k := 4) ho (by show 4 < 5; omega)⟩)
  have HWS := Lib.hid (show w.heap.size ≤ w1.heap.size from HB1.out.size)
  have HCLN := Lib.hid (fun W (hb : Below w2.heap.size w2 W) => cloneN_any x.A x.c W.heap.size r.name W (((HRA.out.n.below hat.below).below (hb.mono hat.below.size)).mono (Nat.le_trans hat.below.size hb.size)) (by have := HSR.out.2.2.l0; omega))
  have HTOLD := Lib.hid (fun (typ knd rank ttl : Int) (hk : knd = 2 ∨ knd = 3) (hf : soundF ⟨n, ⟨typ, knd, rank, T.now, ttl⟩, [], r.name, r.data⟩ = true) => told_no (T := T) (au_all HM.out.1) HM.out.2.1 HSS.out HM.out.2.2 hk hf)
  have HSD := Lib.hid (show soundD 6 r.data = true from by have h := HSR.out.1.d; rwa [HSS.out] at h)
  have HRN := Lib.hid HSR.out.1.n
  have h5' : (r.data.nums.length : Int) - 1 = 4 := by omega
  have h6' : (4 : Int) < (r.data.nums.length : Int) := by omega
  have H5 := Lib.hid h5
  clear hod hat hq HSET HCS q0' d20 s1 s2 s3 t0 h5 hlen hcap hcz hal hbH hA hk HSS HSR HSM HSO HSEC HSEL HM
  obtain ⟨x0, x1, x2, x3, x4⟩ := HSX.out w2 (Below.refl _ _)
  have h5' : (r.data.nums.length : Int) - 1 = 4 := by have := H5.out; omega
  have h6' : (4 : Int) < (r.data.nums.length : Int) := by have := H5.out; omega
  go_upto_region 6 with fail
  clear x0 x1 x2 x3 x4
  go_cut [9] from 43 to 48 (fun t9 wx => NothRel w A c n r ⟨yb, yh, ym, some ⟨gn, 0, none⟩, yt, cb, ch, cm, cn, ct⟩ t9 wx)
  case first =>
    refine wp_region_held_drew (S := fun W => (W.cell? ⟨g2, 0, none⟩ = some (.slice yb r.data.bytes.length cb) ∧ W.cell? ⟨g2, 1, none⟩ = some (.slice yh r.data.host.length ch) ∧ W.cell? ⟨g2, 2, none⟩ = some (.slice ym r.data.mail.length cm) ∧ W.cell? ⟨g2, 3, none⟩ = some (.slice (some ⟨gn, 0, none⟩) r.data.nums.length cn) ∧ W.cell? ⟨g2, 4, none⟩ = some (.slice yt r.data.texts.length ct))) (by kernel_rfl) (by exact HSX.out _ (Below.refl _ _).drew) (fun hHeld => ?_)
    refine wpAnyH_take (i := 0) (oi := ⟨some 43, _, _, _, _, _⟩) (v := ?_) rfl (by kernel_rfl) (by kernel_rfl) (by kernel_rfl) (fun _ _ _ h => h) (Or.inl ⟨by kernel_rfl, ?_⟩) (by assumption) ?_
    rotate_left
    · intro W hSw
      try dsimp only at hSw
      go_simp
      all_goals (with_reducible rfl)
    try simp only [Act.put, List.setIfInBounds_toArray, List.set_cons_zero, List.set_cons_succ]
    refine wpAnyH_take (i := 2) (oi := ⟨some 45, _, _, _, _, _⟩) (v := ?_) rfl (by kernel_rfl) (by kernel_rfl) (by kernel_rfl) (fun _ _ _ h => h) (Or.inl ⟨by kernel_rfl, ?_⟩) (by assumption) ?_
    rotate_left
    · intro W hSw
      try dsimp only at hSw
      go_simp
      all_goals (with_reducible rfl)
    try simp only [Act.put, List.setIfInBounds_toArray, List.set_cons_zero, List.set_cons_succ]
    refine wpAnyH_take (i := 3) (oi := ⟨some 46, _, _, _, _, _⟩) (v := ?_) rfl (by kernel_rfl) (by kernel_rfl) (by kernel_rfl) (fun _ _ _ h => h) (Or.inl ⟨by kernel_rfl, ?_⟩) (by assumption) ?_
    rotate_left
    · intro W hSw
      try dsimp only at hSw
      go_simp
      all_goals (with_reducible rfl)
    try simp only [Act.put, List.setIfInBounds_toArray, List.set_cons_zero, List.set_cons_succ]
    refine wpAnyH_take (i := 4) (oi := ⟨some 47, _, _, _, _, _⟩) (v := ?_) rfl (by kernel_rfl) (by kernel_rfl) (by kernel_rfl) (fun _ _ _ h => h) (Or.inl ⟨by kernel_rfl, ?_⟩) (by assumption) ?_
    rotate_left
    · intro W hSw
      try dsimp only at hSw
      go_simp
      all_goals (with_reducible rfl)
    try simp only [Act.put, List.setIfInBounds_toArray, List.set_cons_zero, List.set_cons_succ]
    refine wpAnyH_ready (rs := [1, 6]) (by kernel_rfl) (by simp) ?_
    refine AllReadyH.cons (o := { dst := some 44, op := Go.Op.call { callee := Go.Callee.value (Go.Operand.func 82), args := #[Go.Operand.tmp 43], argTypes := #[23] }, type := 23, pos := "from.go:115", after := #[{ on := 0, ground := Go.Ground.data }], guard := none }) rfl (fun K hK => ?_) (AllReadyH.cons (o := { dst := some 9, op := Go.Op.alloc 50, type := 0, pos := "from.go:115", after := #[], guard := none }) rfl (fun K hK => ?_) AllReadyH.nil)
    · go_simp
      have HB3a := Lib.hid (Below.refl w2.heap.size w2).drew
      refine (HCLN.out _ HB3a.out).mono ?_
      rintro e w3 ⟨zA, zc, rfl, hz, hb3⟩
      have HZ := Lib.hid (show w3.ownsRow w2.heap.size 9 1 (.slice zA r.name.length zc) r.name.length (r.name.map sv) from own_mono hz HB3a.out.size)
      have HB3 := Lib.hid (HB3a.out.trans (hb3.mono HB3a.out.size))
      have HBW3 := Lib.hid (show w2.heap.size ≤ w3.heap.size from HB3.out.size)
      clear hz hb3
      refine hK.out _ _ (by exact HSX.out _ HB3.out) (fun hHeld2 => ?_)
      clear hK K hHeld
      have hHeld := hHeld2
      clear hHeld2
      try simp only [Act.put, List.setIfInBounds_toArray, List.set_cons_zero, List.set_cons_succ]
      refine wpAnyH_take (i := 5) (oi := ⟨some 48, _, _, _, _, _⟩) (v := ?_) rfl (by kernel_rfl) (by kernel_rfl) (by kernel_rfl) (fun _ _ _ h => h) (Or.inl ⟨by kernel_rfl, ?_⟩) (by assumption) ?_
      rotate_left
      · intro W hSw
        try dsimp only at hSw
        go_simp
        all_goals (with_reducible rfl)
      try simp only [Act.put, List.setIfInBounds_toArray, List.set_cons_zero, List.set_cons_succ]
      refine wpAnyH_ready (rs := [6]) (by kernel_rfl) (by simp) ?_
      refine AllReadyH.cons (o := { dst := some 9, op := Go.Op.alloc 50, type := 0, pos := "from.go:115", after := #[], guard := none }) rfl (fun K hK => ?_) AllReadyH.nil
      go_simp
      have HF3 := Lib.hid (Whole.made w3 [.slice none 0 0, .int .i64 0, .int .i64 0, .int .i64 0, .int .i64 0, .int .i64 0, .slice none 0 0, .slice none 0 0, .slice none 0 0, .slice none 0 0, .slice none 0 0, .slice none 0 0, .slice none 0 0] 50)
      have HZ := Lib.hid (own_keep HZ.out (w' := w3.alloc (.cells #[.slice none 0 0, .int .i64 0, .int .i64 0, .int .i64 0, .int .i64 0, .int .i64 0, .slice none 0 0, .slice none 0 0, .slice none 0 0, .slice none 0 0, .slice none 0 0, .slice none 0 0, .slice none 0 0] 50)) fun j e => (Below.heap_alloc w3 _ _ (HZ.out.lt j e).2))
      have HB3 := Lib.hid (HB3.out.alloc HB3.out.size (.cells #[.slice none 0 0, .int .i64 0, .int .i64 0, .int .i64 0, .int .i64 0, .int .i64 0, .slice none 0 0, .slice none 0 0, .slice none 0 0, .slice none 0 0, .slice none 0 0, .slice none 0 0, .slice none 0 0] 50))
      refine hK.out _ _ (by exact HSX.out _ HB3.out) (fun hHeld2 => ?_)
      clear hK K hHeld
      have hHeld := hHeld2
      clear hHeld2
      try simp only [Act.put, List.setIfInBounds_toArray, List.set_cons_zero, List.set_cons_succ]
      refine wpAnyH_ready (rs := [7]) (by kernel_rfl) (by simp) ?_
      refine AllReadyH.cons (o := { dst := none, op := Go.Op.store 50 (Go.Operand.tmp 9) (Go.Operand.tmp 48), type := 0, pos := "from.go:115", after := #[{ on := 6, ground := Go.Ground.data }, { on := 5, ground := Go.Ground.data }, { on := 1, ground := Go.Ground.chain }, { on := 0, ground := Go.Ground.phase }, { on := 1, ground := Go.Ground.phase }, { on := 2, ground := Go.Ground.phase }, { on := 3, ground := Go.Ground.phase }, { on := 4, ground := Go.Ground.phase }, { on := 5, ground := Go.Ground.phase }, { on := 6, ground := Go.Ground.phase }], guard := none }) rfl (fun K hK => ?_) AllReadyH.nil
      have HGE := Lib.hid HBW3.out
      refine wp_store_whole 50 (.tmp 9) (.tmp 48) rfl w3.heap.size [.slice none 0 0, .int .i64 0, .int .i64 3, .int .i64 2, .int .i64 0, .int .i64 0, .slice none 0 0, .slice zA r.name.length zc, .slice yb r.data.bytes.length cb, .slice yh r.data.host.length ch, .slice ym r.data.mail.length cm, .slice (some ⟨gn, 0, none⟩) r.data.nums.length cn, .slice yt r.data.texts.length ct] rfl rfl 50 _ HF3.out rfl fact_sizeT (fun u hu => by
        simp only [List.mem_cons, List.not_mem_nil, or_false] at hu
        rcases hu with rfl | rfl | rfl | rfl | rfl | rfl | rfl | rfl | rfl | rfl | rfl | rfl | rfl <;> rfl) ?_
      intro V6 hV hG hZs
      have HKT := Lib.hid (KeptT.of_setF HF3.out hG)
      have HBV := Lib.hid (show Below w2.heap.size w2 V6 from HB3.out.trans (hG.below (fun j e => by rw [e]; first | exact Nat.le_refl _ | exact HGE.out) HB3.out.size))
      have HVV := Lib.hid hV
      clear hV hG hZs
      refine hK.out _ _ (by exact HSX.out _ HBV.out) (fun hHeld2 => ?_)
      clear hK K hHeld
      have hHeld := hHeld2
      clear hHeld2
      try simp only [Act.put]
      refine wpAnyH_done (by kernel_rfl) ?_ _
      go_wp2
      go_meet
      exact ⟨w3.heap.size, zA, zc, rfl, ⟨(HNB2.out.below HBV.out HNB2.out.lt), HVV.out, own_mono (HKT.out.own HZ.out str_notT) HB2.out.size, ((HOD.out.monoB HWS.out).keepB fun j _ hj => HBV.out.block j hj), HB2.out.trans (HBV.out.mono HB2.out.size), Nat.le_trans HB2.out.size HBW3.out⟩⟩
    · go_simp
      have HF := Lib.hid (Whole.made w2.drew [.slice none 0 0, .int .i64 0, .int .i64 0, .int .i64 0, .int .i64 0, .int .i64 0, .slice none 0 0, .slice none 0 0, .slice none 0 0, .slice none 0 0, .slice none 0 0, .slice none 0 0, .slice none 0 0] 50)
      refine hK.out _ _ (by exact HSX.out _ ((Below.refl w2.heap.size w2).drew.alloc (Nat.le_refl _) (.cells #[.slice none 0 0, .int .i64 0, .int .i64 0, .int .i64 0, .int .i64 0, .int .i64 0, .slice none 0 0, .slice none 0 0, .slice none 0 0, .slice none 0 0, .slice none 0 0, .slice none 0 0, .slice none 0 0] 50))) (fun hHeld2 => ?_)
      clear hK K hHeld
      have hHeld := hHeld2
      clear hHeld2
      try simp only [Act.put, List.setIfInBounds_toArray, List.set_cons_zero, List.set_cons_succ]
      refine wpAnyH_ready (rs := [1]) (by kernel_rfl) (by simp) ?_
      refine AllReadyH.cons (o := { dst := some 44, op := Go.Op.call { callee := Go.Callee.value (Go.Operand.func 82), args := #[Go.Operand.tmp 43], argTypes := #[23] }, type := 23, pos := "from.go:115", after := #[{ on := 0, ground := Go.Ground.data }], guard := none }) rfl (fun K hK => ?_) AllReadyH.nil
      go_simp
      have HB3a := Lib.hid ((Below.refl w2.heap.size w2).drew.alloc (Nat.le_refl _) (.cells #[.slice none 0 0, .int .i64 0, .int .i64 0, .int .i64 0, .int .i64 0, .int .i64 0, .slice none 0 0, .slice none 0 0, .slice none 0 0, .slice none 0 0, .slice none 0 0, .slice none 0 0, .slice none 0 0] 50))
      refine (HCLN.out _ HB3a.out).mono ?_
      rintro e w3 ⟨zA, zc, rfl, hz, hb3⟩
      have HZ := Lib.hid (show w3.ownsRow w2.heap.size 9 1 (.slice zA r.name.length zc) r.name.length (r.name.map sv) from own_mono hz HB3a.out.size)
      have HB3 := Lib.hid (HB3a.out.trans (hb3.mono HB3a.out.size))
      have HBW3 := Lib.hid (show w2.heap.size ≤ w3.heap.size from HB3.out.size)
      have HF3 := Lib.hid (HF.out.below hb3 HF.out.lt)
      clear hz hb3
      refine hK.out _ _ (by exact HSX.out _ HB3.out) (fun hHeld2 => ?_)
      clear hK K hHeld
      have hHeld := hHeld2
      clear hHeld2
      try simp only [Act.put, List.setIfInBounds_toArray, List.set_cons_zero, List.set_cons_succ]
      refine wpAnyH_take (i := 5) (oi := ⟨some 48, _, _, _, _, _⟩) (v := ?_) rfl (by kernel_rfl) (by kernel_rfl) (by kernel_rfl) (fun _ _ _ h => h) (Or.inl ⟨by kernel_rfl, ?_⟩) (by assumption) ?_
      rotate_left
      · intro W hSw
        try dsimp only at hSw
        go_simp
        all_goals (with_reducible rfl)
      try simp only [Act.put, List.setIfInBounds_toArray, List.set_cons_zero, List.set_cons_succ]
      refine wpAnyH_ready (rs := [7]) (by kernel_rfl) (by simp) ?_
      refine AllReadyH.cons (o := { dst := none, op := Go.Op.store 50 (Go.Operand.tmp 9) (Go.Operand.tmp 48), type := 0, pos := "from.go:115", after := #[{ on := 6, ground := Go.Ground.data }, { on := 5, ground := Go.Ground.data }, { on := 1, ground := Go.Ground.chain }, { on := 0, ground := Go.Ground.phase }, { on := 1, ground := Go.Ground.phase }, { on := 2, ground := Go.Ground.phase }, { on := 3, ground := Go.Ground.phase }, { on := 4, ground := Go.Ground.phase }, { on := 5, ground := Go.Ground.phase }, { on := 6, ground := Go.Ground.phase }], guard := none }) rfl (fun K hK => ?_) AllReadyH.nil
      refine wp_store_whole 50 (.tmp 9) (.tmp 48) rfl w2.heap.size [.slice none 0 0, .int .i64 0, .int .i64 3, .int .i64 2, .int .i64 0, .int .i64 0, .slice none 0 0, .slice zA r.name.length zc, .slice yb r.data.bytes.length cb, .slice yh r.data.host.length ch, .slice ym r.data.mail.length cm, .slice (some ⟨gn, 0, none⟩) r.data.nums.length cn, .slice yt r.data.texts.length ct] rfl rfl 50 _ HF3.out rfl fact_sizeT (fun u hu => by
        simp only [List.mem_cons, List.not_mem_nil, or_false] at hu
        rcases hu with rfl | rfl | rfl | rfl | rfl | rfl | rfl | rfl | rfl | rfl | rfl | rfl | rfl <;> rfl) ?_
      intro V6 hV hG hZs
      have HKT := Lib.hid (KeptT.of_setF HF3.out hG)
      have HBV := Lib.hid (show Below w2.heap.size w2 V6 from HB3.out.trans (hG.below (fun j e => by rw [e]; first | exact Nat.le_refl _ | exact HGE.out) HB3.out.size))
      have HVV := Lib.hid hV
      clear hV hG hZs
      refine hK.out _ _ (by exact HSX.out _ HBV.out) (fun hHeld2 => ?_)
      clear hK K hHeld
      have hHeld := hHeld2
      clear hHeld2
      try simp only [Act.put]
      refine wpAnyH_done (by kernel_rfl) ?_ _
      go_wp2
      go_meet
      exact ⟨w2.heap.size, zA, zc, rfl, ⟨(HNB2.out.below HBV.out HNB2.out.lt), HVV.out, own_mono (HKT.out.own HZ.out str_notT) HB2.out.size, ((HOD.out.monoB HWS.out).keepB fun j _ hj => HBV.out.block j hj), HB2.out.trans (HBV.out.mono HB2.out.size), HB2.out.size⟩⟩
  case rest =>
    clear HSX HCLN HNB2 HOD
    rename World => w4
    obtain ⟨g, zA, zc, rfl, hno⟩ := hcut
    have HNO := Lib.hid hno
    obtain ⟨last, q4⟩ : ∃ last, w4.cell? ⟨gn, 4, none⟩ = some (.int .i64 last) := ⟨_, (own_cell (k := 4) hno.d.n (by rw [List.length_map]; have := H5.out; omega)).trans (by rw [List.getElem_map]; rfl)⟩
    have HCM := Lib.hid (fun t W => (clamp_any t true W).mono (fun e w' ⟨h1, h2⟩ => (⟨clampI t true, h1, clampI_in t true, h2⟩ : ∃ tt : Int, e = Ending.returned (Value.int IntKind.i64 tt) ∧ (0 ≤ tt ∧ tt ≤ 604800) ∧ W = w')))
    clear hno
    by_cases krc : T.m.h.rc = 3
    · have t3 : (T.m.h.rc != 3) = false := by rw [krc]; rfl
      clear krc
      cases haa : T.m.h.aa with
      | true =>
        have HAA := Lib.hid haa
        clear haa
        go_wp2_with (first
          | (go_at_call 83; refine (HCM.out _ _).mono ?_; rintro e wx ⟨tt, rfl, htt, rfl⟩; have HTT := Lib.hid htt; clear htt)
          | (refine wpList_store_one rfl 3 (.tmp 58) (.tmp 57) rfl g 5 (.int .i64 tt) rfl rfl rfl int_oneT 50 _ HNO.out.fb _ rfl ?_
             intro V5 hV hG hZ5
             have HN5 := Lib.hid (show NoB w A c n g [.slice none 0 0, .int .i64 0, .int .i64 3, .int .i64 2, .int .i64 0, .int .i64 tt, .slice none 0 0, .slice zA r.name.length zc, .slice yb r.data.bytes.length cb, .slice yh r.data.host.length ch, .slice ym r.data.mail.length cm, .slice (some ⟨gn, 0, none⟩) r.data.nums.length cn, .slice yt r.data.texts.length ct] zA zc r.name ⟨yb, yh, ym, some ⟨gn, 0, none⟩, yt, cb, ch, cm, cn, ct⟩ r.data V5 from HNO.out.put hV hG)
             have c6 : V5.cell? ⟨b, 6, none⟩ = some (.bool true) := ((HT.out V5 HN5.out.below).blk.cell 6).trans (by rw [← HAA.out]; rfl)
             clear hV hG hZ5)
          | (refine wpList_store_one rfl 3 (.tmp 64) (.const (.int .i64 4)) rfl g 3 (.int .i64 4) rfl rfl rfl int_oneT 50 _ HN5.out.fb _ rfl ?_
             intro V6 hV hG hZ6
             have HN6 := Lib.hid (show NoB w A c n g [.slice none 0 0, .int .i64 0, .int .i64 3, .int .i64 4, .int .i64 0, .int .i64 tt, .slice none 0 0, .slice zA r.name.length zc, .slice yb r.data.bytes.length cb, .slice yh r.data.host.length ch, .slice ym r.data.mail.length cm, .slice (some ⟨gn, 0, none⟩) r.data.nums.length cn, .slice yt r.data.texts.length ct] zA zc r.name ⟨yb, yh, ym, some ⟨gn, 0, none⟩, yt, cb, ch, cm, cn, ct⟩ r.data V6 from HN5.out.put hV hG)
             have c10 : V6.cell? ⟨b, 10, none⟩ = some (.int .i64 T.m.h.rc) := (HT.out V6 HN6.out.below).blk.cell 10
             have f0 : V6.cell? ⟨g, 0, none⟩ = some (.slice none 0 0) := HN6.out.fb.cell 0
             have f1 : V6.cell? ⟨g, 1, none⟩ = some (.int .i64 0) := HN6.out.fb.cell 1
             have f2 : V6.cell? ⟨g, 2, none⟩ = some (.int .i64 3) := HN6.out.fb.cell 2
             have f3 : V6.cell? ⟨g, 3, none⟩ = some (.int .i64 4) := HN6.out.fb.cell 3
             have f4 : V6.cell? ⟨g, 4, none⟩ = some (.int .i64 0) := HN6.out.fb.cell 4
             have f5 : V6.cell? ⟨g, 5, none⟩ = some (.int .i64 tt) := HN6.out.fb.cell 5
             have f6 : V6.cell? ⟨g, 6, none⟩ = some (.slice none 0 0) := HN6.out.fb.cell 6
             have f7 : V6.cell? ⟨g, 7, none⟩ = some (.slice zA r.name.length zc) := HN6.out.fb.cell 7
             have f8 : V6.cell? ⟨g, 8, none⟩ = some (.slice yb r.data.bytes.length cb) := HN6.out.fb.cell 8
             have f9 : V6.cell? ⟨g, 9, none⟩ = some (.slice yh r.data.host.length ch) := HN6.out.fb.cell 9
             have f10 : V6.cell? ⟨g, 10, none⟩ = some (.slice ym r.data.mail.length cm) := HN6.out.fb.cell 10
             have f11 : V6.cell? ⟨g, 11, none⟩ = some (.slice (some ⟨gn, 0, none⟩) r.data.nums.length cn) := HN6.out.fb.cell 11
             have f12 : V6.cell? ⟨g, 12, none⟩ = some (.slice yt r.data.texts.length ct) := HN6.out.fb.cell 12
             have nn : V6.cell? ⟨w.heap.size, 0, none⟩ = some (.slice A n.length c) := HN6.out.nb.cell 0
             have HADD := Lib.hid (show Calls Try.prog 85 #[.pointer (some ⟨b, 0, none⟩), .slice A n.length c, .agg #[.slice none 0 0, .int .i64 0, .int .i64 3, .int .i64 4, .int .i64 0, .int .i64 tt, .slice none 0 0, .slice zA r.name.length zc, .slice yb r.data.bytes.length cb, .slice yh r.data.host.length ch, .slice ym r.data.mail.length cm, .slice (some ⟨gn, 0, none⟩) r.data.nums.length cn, .slice yt r.data.texts.length ct]] V6 (fun e w' => e = .returned (.tuple #[]) ∧ TellOut w0 T b an au ex xs 1 V6 w') from
               HAPP.out V6 HN6.out.below ⟨none, 0, [], ⟨0, 3, 4, 0, tt⟩, none, 0, [], zA, zc, r.name, ⟨yb, yh, ym, some ⟨gn, 0, none⟩, yt, cb, ch, cm, cn, ct⟩, r.data⟩
                 ⟨own_mono HN6.out.z HSZ.out, HN6.out.d.monoB HSZ.out, World.ownsRow_nil _ _ _ _, fun _ h => absurd h (List.not_mem_nil)⟩
                 ⟨(show (Lit.int .i64 0).wf = true by decide), (show (Lit.int .i64 3).wf = true by decide), (show (Lit.int .i64 4).wf = true by decide), wf_i64 (show _ ≤ tt by have := HTT.out; omega) (show tt ≤ _ by have := HTT.out; omega), ⟨soundN_sz HRN.out, by have := sound_few HRN.out; show r.name.length ≤ 300; omega, soundN_wide HRN.out⟩, fun _ h => absurd h (List.not_mem_nil), sound_small HSD.out⟩
                 (fun hf => HTOLD.out 0 3 4 tt (.inr rfl) hf))
             clear hV hG hZ6)
          | (go_at_call 85; refine HADD.out.mono ?_; rintro e w9 ⟨rfl, v9, xs9, k1, k2, k3, k4⟩))
        all_goals (
          first | go_end0 | refine bodyPost_ret (results_none rfl _ _ _) rfl ?_
          exact ⟨rfl, v9, xs9, k1, k2, (KeptT.below HN6.out.below).trans k3, Nat.le_trans HN6.out.below.size k4⟩)
      | false =>
        have HAA := Lib.hid haa
        clear haa
        go_wp2_with (first
          | (go_at_call 83; refine (HCM.out _ _).mono ?_; rintro e wx ⟨tt, rfl, htt, rfl⟩; have HTT := Lib.hid htt; clear htt)
          | (refine wpList_store_one rfl 3 (.tmp 58) (.tmp 57) rfl g 5 (.int .i64 tt) rfl rfl rfl int_oneT 50 _ HNO.out.fb _ rfl ?_
             intro V5 hV hG hZ5
             have HN5 := Lib.hid (show NoB w A c n g [.slice none 0 0, .int .i64 0, .int .i64 3, .int .i64 2, .int .i64 0, .int .i64 tt, .slice none 0 0, .slice zA r.name.length zc, .slice yb r.data.bytes.length cb, .slice yh r.data.host.length ch, .slice ym r.data.mail.length cm, .slice (some ⟨gn, 0, none⟩) r.data.nums.length cn, .slice yt r.data.texts.length ct] zA zc r.name ⟨yb, yh, ym, some ⟨gn, 0, none⟩, yt, cb, ch, cm, cn, ct⟩ r.data V5 from HNO.out.put hV hG)
             have c6 : V5.cell? ⟨b, 6, none⟩ = some (.bool false) := ((HT.out V5 HN5.out.below).blk.cell 6).trans (by rw [← HAA.out]; rfl)
             have c10 : V5.cell? ⟨b, 10, none⟩ = some (.int .i64 T.m.h.rc) := (HT.out V5 HN5.out.below).blk.cell 10
             have f0 : V5.cell? ⟨g, 0, none⟩ = some (.slice none 0 0) := HN5.out.fb.cell 0
             have f1 : V5.cell? ⟨g, 1, none⟩ = some (.int .i64 0) := HN5.out.fb.cell 1
             have f2 : V5.cell? ⟨g, 2, none⟩ = some (.int .i64 3) := HN5.out.fb.cell 2
             have f3 : V5.cell? ⟨g, 3, none⟩ = some (.int .i64 2) := HN5.out.fb.cell 3
             have f4 : V5.cell? ⟨g, 4, none⟩ = some (.int .i64 0) := HN5.out.fb.cell 4
             have f5 : V5.cell? ⟨g, 5, none⟩ = some (.int .i64 tt) := HN5.out.fb.cell 5
             have f6 : V5.cell? ⟨g, 6, none⟩ = some (.slice none 0 0) := HN5.out.fb.cell 6
             have f7 : V5.cell? ⟨g, 7, none⟩ = some (.slice zA r.name.length zc) := HN5.out.fb.cell 7
             have f8 : V5.cell? ⟨g, 8, none⟩ = some (.slice yb r.data.bytes.length cb) := HN5.out.fb.cell 8
             have f9 : V5.cell? ⟨g, 9, none⟩ = some (.slice yh r.data.host.length ch) := HN5.out.fb.cell 9
             have f10 : V5.cell? ⟨g, 10, none⟩ = some (.slice ym r.data.mail.length cm) := HN5.out.fb.cell 10
             have f11 : V5.cell? ⟨g, 11, none⟩ = some (.slice (some ⟨gn, 0, none⟩) r.data.nums.length cn) := HN5.out.fb.cell 11
             have f12 : V5.cell? ⟨g, 12, none⟩ = some (.slice yt r.data.texts.length ct) := HN5.out.fb.cell 12
             have nn : V5.cell? ⟨w.heap.size, 0, none⟩ = some (.slice A n.length c) := HN5.out.nb.cell 0
             have HADD := Lib.hid (show Calls Try.prog 85 #[.pointer (some ⟨b, 0, none⟩), .slice A n.length c, .agg #[.slice none 0 0, .int .i64 0, .int .i64 3, .int .i64 2, .int .i64 0, .int .i64 tt, .slice none 0 0, .slice zA r.name.length zc, .slice yb r.data.bytes.length cb, .slice yh r.data.host.length ch, .slice ym r.data.mail.length cm, .slice (some ⟨gn, 0, none⟩) r.data.nums.length cn, .slice yt r.data.texts.length ct]] V5 (fun e w' => e = .returned (.tuple #[]) ∧ TellOut w0 T b an au ex xs 1 V5 w') from
               HAPP.out V5 HN5.out.below ⟨none, 0, [], ⟨0, 3, 2, 0, tt⟩, none, 0, [], zA, zc, r.name, ⟨yb, yh, ym, some ⟨gn, 0, none⟩, yt, cb, ch, cm, cn, ct⟩, r.data⟩
                 ⟨own_mono HN5.out.z HSZ.out, HN5.out.d.monoB HSZ.out, World.ownsRow_nil _ _ _ _, fun _ h => absurd h (List.not_mem_nil)⟩
                 ⟨(show (Lit.int .i64 0).wf = true by decide), (show (Lit.int .i64 3).wf = true by decide), (show (Lit.int .i64 2).wf = true by decide), wf_i64 (show _ ≤ tt by have := HTT.out; omega) (show tt ≤ _ by have := HTT.out; omega), ⟨soundN_sz HRN.out, by have := sound_few HRN.out; show r.name.length ≤ 300; omega, soundN_wide HRN.out⟩, fun _ h => absurd h (List.not_mem_nil), sound_small HSD.out⟩
                 (fun hf => HTOLD.out 0 3 2 tt (.inr rfl) hf))
             clear hV hG hZ5)
          | (go_at_call 85; refine HADD.out.mono ?_; rintro e w9 ⟨rfl, v9, xs9, k1, k2, k3, k4⟩))
        all_goals (
          first | go_end0 | refine bodyPost_ret (results_none rfl _ _ _) rfl ?_
          exact ⟨rfl, v9, xs9, k1, k2, (KeptT.below HN5.out.below).trans k3, Nat.le_trans HN5.out.below.size k4⟩)
    have t3 : (T.m.h.rc != 3) = true := by rw [bne_iff_ne]; exact krc
    clear krc
    cases haa : T.m.h.aa with
    | true =>
      have HAA := Lib.hid haa
      clear haa
      go_wp2_with (first
        | (go_at_call 83; refine (HCM.out _ _).mono ?_; rintro e wx ⟨tt, rfl, htt, rfl⟩; have HTT := Lib.hid htt; clear htt)
        | (refine wpList_store_one rfl 3 (.tmp 58) (.tmp 57) rfl g 5 (.int .i64 tt) rfl rfl rfl int_oneT 50 _ HNO.out.fb _ rfl ?_
           intro V5 hV hG hZ5
           have HN5 := Lib.hid (show NoB w A c n g [.slice none 0 0, .int .i64 0, .int .i64 3, .int .i64 2, .int .i64 0, .int .i64 tt, .slice none 0 0, .slice zA r.name.length zc, .slice yb r.data.bytes.length cb, .slice yh r.data.host.length ch, .slice ym r.data.mail.length cm, .slice (some ⟨gn, 0, none⟩) r.data.nums.length cn, .slice yt r.data.texts.length ct] zA zc r.name ⟨yb, yh, ym, some ⟨gn, 0, none⟩, yt, cb, ch, cm, cn, ct⟩ r.data V5 from HNO.out.put hV hG)
           have c6 : V5.cell? ⟨b, 6, none⟩ = some (.bool true) := ((HT.out V5 HN5.out.below).blk.cell 6).trans (by rw [← HAA.out]; rfl)
           clear hV hG hZ5)
        | (refine wpList_store_one rfl 3 (.tmp 64) (.const (.int .i64 4)) rfl g 3 (.int .i64 4) rfl rfl rfl int_oneT 50 _ HN5.out.fb _ rfl ?_
           intro V6 hV hG hZ6
           have HN6 := Lib.hid (show NoB w A c n g [.slice none 0 0, .int .i64 0, .int .i64 3, .int .i64 4, .int .i64 0, .int .i64 tt, .slice none 0 0, .slice zA r.name.length zc, .slice yb r.data.bytes.length cb, .slice yh r.data.host.length ch, .slice ym r.data.mail.length cm, .slice (some ⟨gn, 0, none⟩) r.data.nums.length cn, .slice yt r.data.texts.length ct] zA zc r.name ⟨yb, yh, ym, some ⟨gn, 0, none⟩, yt, cb, ch, cm, cn, ct⟩ r.data V6 from HN5.out.put hV hG)
           have c10 : V6.cell? ⟨b, 10, none⟩ = some (.int .i64 T.m.h.rc) := (HT.out V6 HN6.out.below).blk.cell 10
           clear hV hG hZ6))
      all_goals (
        refine (HRF.out _ HN6.out.below).mono ?_
        rintro e w7 ⟨bv, rfl, hb7⟩
        have HN7 := Lib.hid (HN6.out.step hb7)
        clear hb7
        cases bv with
        | true =>
          go_wp2
          first | go_end0 | refine bodyPost_ret (results_none rfl _ _ _) rfl ?_
          exact ⟨rfl, HFIN.out _ HN7.out.below⟩
        | false =>
          have HS12 := Lib.hid (show ∀ W, Below w.heap.size w W → W.cell? ⟨b, 1, none⟩ = some (.int .i64 T.q.kind) from fun W hb => (HT.out W hb).blk.cell 1)
          go_wp2
          refine wp_region_held_drew (S := fun W => W.cell? ⟨b, 1, none⟩ = some (.int .i64 T.q.kind)) (by kernel_rfl) (by exact HS12.out _ (HN7.out.step (Below.refl _ _).drew).below) (fun hHeld => ?_)
          refine wpAnyH_take (i := 0) (oi := ⟨some 73, _, _, _, _, _⟩) (v := ?_) rfl (by kernel_rfl) (by kernel_rfl) (by kernel_rfl) (fun _ _ _ h => h) (Or.inl ⟨by kernel_rfl, ?_⟩) (by assumption) ?_
          rotate_left
          · intro W hSw
            try dsimp only at hSw
            go_simp
            all_goals (with_reducible rfl)
          try simp only [Act.put, List.setIfInBounds_toArray, List.set_cons_zero, List.set_cons_succ]
          refine wpAnyH_take (i := 1) (oi := ⟨some 74, _, _, _, _, _⟩) (v := ?_) rfl (by kernel_rfl) (by kernel_rfl) (by kernel_rfl) (fun _ _ _ h => h) (Or.inl ⟨by kernel_rfl, ?_⟩) (by assumption) ?_
          rotate_left
          · intro W hSw
            try dsimp only at hSw
            go_simp
            all_goals (with_reducible rfl)
          try simp only [Act.put, List.setIfInBounds_toArray, List.set_cons_zero, List.set_cons_succ]
          refine wpAnyH_take (i := 2) (oi := ⟨some 75, _, _, _, _, _⟩) (v := ?_) rfl (by kernel_rfl) (by kernel_rfl) (by kernel_rfl) (fun _ _ _ h => h) (Or.inl ⟨by kernel_rfl, ?_⟩) (by assumption) ?_
          rotate_left
          · intro W hSw
            try dsimp only at hSw
            go_simp
            all_goals (with_reducible rfl)
          try simp only [Act.put, List.setIfInBounds_toArray, List.set_cons_zero, List.set_cons_succ]
          refine wpAnyH_take (i := 3) (oi := ⟨some 76, _, _, _, _, _⟩) (v := ?_) rfl (by kernel_rfl) (by kernel_rfl) (by kernel_rfl) (fun _ _ _ h => h) (Or.inl ⟨by kernel_rfl, ?_⟩) (by assumption) ?_
          rotate_left
          · intro W hSw
            try dsimp only at hSw
            go_simp
            all_goals (with_reducible rfl)
          try simp only [Act.put, List.setIfInBounds_toArray, List.set_cons_zero, List.set_cons_succ]
          refine wpAnyH_take (i := 4) (oi := ⟨some 77, _, _, _, _, _⟩) (v := ?_) rfl (by kernel_rfl) (by kernel_rfl) (by kernel_rfl) (fun _ _ _ h => h) (Or.inl ⟨by kernel_rfl, ?_⟩) (by assumption) ?_
          rotate_left
          · intro W hSw
            try dsimp only at hSw
            go_simp
            all_goals (with_reducible rfl)
          try simp only [Act.put, List.setIfInBounds_toArray, List.set_cons_zero, List.set_cons_succ]
          refine wpAnyH_take (i := 5) (oi := ⟨some 78, _, _, _, _, _⟩) (v := ?_) rfl (by kernel_rfl) (by kernel_rfl) (by kernel_rfl) (fun _ _ _ h => h) (Or.inl ⟨by kernel_rfl, ?_⟩) (by assumption) ?_
          rotate_left
          · intro W hSw
            try dsimp only at hSw
            go_simp
            all_goals (with_reducible rfl)
          try simp only [Act.put, List.setIfInBounds_toArray, List.set_cons_zero, List.set_cons_succ]
          refine wpAnyH_ready (rs := [6]) (by kernel_rfl) (by simp) ?_
          refine AllReadyH.cons (o := { dst := none, op := Go.Op.store 3 (Go.Operand.tmp 78) (Go.Operand.const (Go.Value.int Go.IntKind.i64 2)), type := 0, pos := "from.go:124", after := #[{ on := 5, ground := Go.Ground.data }, { on := 0, ground := Go.Ground.textOnly Go.Departure.lateStores }, { on := 1, ground := Go.Ground.textOnly Go.Departure.lateStores }, { on := 2, ground := Go.Ground.textOnly Go.Departure.lateStores }, { on := 3, ground := Go.Ground.textOnly Go.Departure.lateStores }, { on := 4, ground := Go.Ground.textOnly Go.Departure.lateStores }], guard := none }) rfl (fun K hK => ?_) AllReadyH.nil
          refine wp_store_one 3 (.tmp 78) (.const (.int .i64 2)) rfl g 2 (.int .i64 2) rfl rfl rfl int_oneT 50 _ (HN7.out.step (Below.refl _ _).drew).fb _ rfl ?_
          intro V8 hV hG hZ8
          have HN8 := Lib.hid ((HN7.out.step (Below.refl _ _).drew).put hV hG)
          clear hV hG hZ8
          refine hK.out _ _ (by exact HS12.out _ HN8.out.below) (fun hHeld2 => ?_)
          clear hK K hHeld
          have hHeld := hHeld2
          clear hHeld2
          try simp only [Act.put]
          refine wpAnyH_take (i := 7) (oi := ⟨some 79, _, _, _, _, _⟩) (v := ?_) rfl (by kernel_rfl) (by kernel_rfl) (by kernel_rfl) (fun _ _ _ h => h) (Or.inl ⟨by kernel_rfl, ?_⟩) (by assumption) ?_
          rotate_left
          · intro W hSw
            try dsimp only at hSw
            go_simp
            all_goals (with_reducible rfl)
          try simp only [Act.put, List.setIfInBounds_toArray, List.set_cons_zero, List.set_cons_succ]
          refine wpAnyH_ready (rs := [8]) (by kernel_rfl) (by simp) ?_
          refine AllReadyH.cons (o := { dst := none, op := Go.Op.store 3 (Go.Operand.tmp 79) (Go.Operand.tmp 77), type := 0, pos := "from.go:124", after := #[{ on := 7, ground := Go.Ground.data }, { on := 4, ground := Go.Ground.data }, { on := 6, ground := Go.Ground.chain }, { on := 0, ground := Go.Ground.phase }, { on := 1, ground := Go.Ground.phase }, { on := 2, ground := Go.Ground.phase }, { on := 3, ground := Go.Ground.phase }, { on := 4, ground := Go.Ground.phase }, { on := 5, ground := Go.Ground.phase }, { on := 6, ground := Go.Ground.phase }], guard := none }) rfl (fun K hK => ?_) AllReadyH.nil
          refine wp_store_one 3 (.tmp 79) (.tmp 77) rfl g 1 (.int .i64 T.q.kind) rfl rfl rfl int_oneT 50 _ HN8.out.fb _ rfl ?_
          intro V9 hV hG hZ9
          have HN9 := Lib.hid (show NoB w A c n g [.slice none 0 0, .int .i64 T.q.kind, .int .i64 2, .int .i64 4, .int .i64 0, .int .i64 tt, .slice none 0 0, .slice zA r.name.length zc, .slice yb r.data.bytes.length cb, .slice yh r.data.host.length ch, .slice ym r.data.mail.length cm, .slice (some ⟨gn, 0, none⟩) r.data.nums.length cn, .slice yt r.data.texts.length ct] zA zc r.name ⟨yb, yh, ym, some ⟨gn, 0, none⟩, yt, cb, ch, cm, cn, ct⟩ r.data V9 from HN8.out.put hV hG)
          clear hV hG hZ9
          refine hK.out _ _ (by exact HS12.out _ HN9.out.below) (fun hHeld2 => ?_)
          clear hK K hHeld
          have hHeld := hHeld2
          clear hHeld2
          try simp only [Act.put]
          refine wpAnyH_done (by kernel_rfl) ?_ _
          have f0 : V9.cell? ⟨g, 0, none⟩ = some (.slice none 0 0) := HN9.out.fb.cell 0
          have f1 : V9.cell? ⟨g, 1, none⟩ = some (.int .i64 T.q.kind) := HN9.out.fb.cell 1
          have f2 : V9.cell? ⟨g, 2, none⟩ = some (.int .i64 2) := HN9.out.fb.cell 2
          have f3 : V9.cell? ⟨g, 3, none⟩ = some (.int .i64 4) := HN9.out.fb.cell 3
          have f4 : V9.cell? ⟨g, 4, none⟩ = some (.int .i64 0) := HN9.out.fb.cell 4
          have f5 : V9.cell? ⟨g, 5, none⟩ = some (.int .i64 tt) := HN9.out.fb.cell 5
          have f6 : V9.cell? ⟨g, 6, none⟩ = some (.slice none 0 0) := HN9.out.fb.cell 6
          have f7 : V9.cell? ⟨g, 7, none⟩ = some (.slice zA r.name.length zc) := HN9.out.fb.cell 7
          have f8 : V9.cell? ⟨g, 8, none⟩ = some (.slice yb r.data.bytes.length cb) := HN9.out.fb.cell 8
          have f9 : V9.cell? ⟨g, 9, none⟩ = some (.slice yh r.data.host.length ch) := HN9.out.fb.cell 9
          have f10 : V9.cell? ⟨g, 10, none⟩ = some (.slice ym r.data.mail.length cm) := HN9.out.fb.cell 10
          have f11 : V9.cell? ⟨g, 11, none⟩ = some (.slice (some ⟨gn, 0, none⟩) r.data.nums.length cn) := HN9.out.fb.cell 11
          have f12 : V9.cell? ⟨g, 12, none⟩ = some (.slice yt r.data.texts.length ct) := HN9.out.fb.cell 12
          have nn : V9.cell? ⟨w.heap.size, 0, none⟩ = some (.slice A n.length c) := HN9.out.nb.cell 0
          have HADD := Lib.hid (show Calls Try.prog 85 #[.pointer (some ⟨b, 0, none⟩), .slice A n.length c, .agg #[.slice none 0 0, .int .i64 T.q.kind, .int .i64 2, .int .i64 4, .int .i64 0, .int .i64 tt, .slice none 0 0, .slice zA r.name.length zc, .slice yb r.data.bytes.length cb, .slice yh r.data.host.length ch, .slice ym r.data.mail.length cm, .slice (some ⟨gn, 0, none⟩) r.data.nums.length cn, .slice yt r.data.texts.length ct]] V9 (fun e w' => e = .returned (.tuple #[]) ∧ TellOut w0 T b an au ex xs 1 V9 w') from
            HAPP.out V9 HN9.out.below ⟨none, 0, [], ⟨T.q.kind, 2, 4, 0, tt⟩, none, 0, [], zA, zc, r.name, ⟨yb, yh, ym, some ⟨gn, 0, none⟩, yt, cb, ch, cm, cn, ct⟩, r.data⟩
              ⟨own_mono HN9.out.z HSZ.out, HN9.out.d.monoB HSZ.out, World.ownsRow_nil _ _ _ _, fun _ h => absurd h (List.not_mem_nil)⟩
              ⟨HWQ.out, (show (Lit.int .i64 2).wf = true by decide), (show (Lit.int .i64 4).wf = true by decide), wf_i64 (show _ ≤ tt by have := HTT.out; omega) (show tt ≤ _ by have := HTT.out; omega), ⟨soundN_sz HRN.out, by have := sound_few HRN.out; show r.name.length ≤ 300; omega, soundN_wide HRN.out⟩, fun _ h => absurd h (List.not_mem_nil), sound_small HSD.out⟩
              (fun hf => HTOLD.out T.q.kind 2 4 tt (.inl rfl) hf))
          go_wp2_with (go_at_call 85; refine HADD.out.mono ?_; rintro e w9 ⟨rfl, v9, xs9, k1, k2, k3, k4⟩)
          first | go_end0 | refine bodyPost_ret (results_none rfl _ _ _) rfl ?_
          exact ⟨rfl, v9, xs9, k1, k2, (KeptT.below HN9.out.below).trans k3, Nat.le_trans HN9.out.below.size k4⟩)
    | false =>
      have HAA := Lib.hid haa
      clear haa
      go_wp2_with (first
        | (go_at_call 83; refine (HCM.out _ _).mono ?_; rintro e wx ⟨tt, rfl, htt, rfl⟩; have HTT := Lib.hid htt; clear htt)
        | (refine wpList_store_one rfl 3 (.tmp 58) (.tmp 57) rfl g 5 (.int .i64 tt) rfl rfl rfl int_oneT 50 _ HNO.out.fb _ rfl ?_
           intro V5 hV hG hZ5
           have HN5 := Lib.hid (show NoB w A c n g [.slice none 0 0, .int .i64 0, .int .i64 3, .int .i64 2, .int .i64 0, .int .i64 tt, .slice none 0 0, .slice zA r.name.length zc, .slice yb r.data.bytes.length cb, .slice yh r.data.host.length ch, .slice ym r.data.mail.length cm, .slice (some ⟨gn, 0, none⟩) r.data.nums.length cn, .slice yt r.data.texts.length ct] zA zc r.name ⟨yb, yh, ym, some ⟨gn, 0, none⟩, yt, cb, ch, cm, cn, ct⟩ r.data V5 from HNO.out.put hV hG)
           have c6 : V5.cell? ⟨b, 6, none⟩ = some (.bool false) := ((HT.out V5 HN5.out.below).blk.cell 6).trans (by rw [← HAA.out]; rfl)
           have c10 : V5.cell? ⟨b, 10, none⟩ = some (.int .i64 T.m.h.rc) := (HT.out V5 HN5.out.below).blk.cell 10
           clear hV hG hZ5))
      all_goals (
        refine (HRF.out _ HN5.out.below).mono ?_
        rintro e w7 ⟨bv, rfl, hb7⟩
        have HN7 := Lib.hid (HN5.out.step hb7)
        clear hb7
        cases bv with
        | true =>
          go_wp2
          first | go_end0 | refine bodyPost_ret (results_none rfl _ _ _) rfl ?_
          exact ⟨rfl, HFIN.out _ HN7.out.below⟩
        | false =>
          have HS12 := Lib.hid (show ∀ W, Below w.heap.size w W → W.cell? ⟨b, 1, none⟩ = some (.int .i64 T.q.kind) from fun W hb => (HT.out W hb).blk.cell 1)
          go_wp2
          refine wp_region_held_drew (S := fun W => W.cell? ⟨b, 1, none⟩ = some (.int .i64 T.q.kind)) (by kernel_rfl) (by exact HS12.out _ (HN7.out.step (Below.refl _ _).drew).below) (fun hHeld => ?_)
          refine wpAnyH_take (i := 0) (oi := ⟨some 73, _, _, _, _, _⟩) (v := ?_) rfl (by kernel_rfl) (by kernel_rfl) (by kernel_rfl) (fun _ _ _ h => h) (Or.inl ⟨by kernel_rfl, ?_⟩) (by assumption) ?_
          rotate_left
          · intro W hSw
            try dsimp only at hSw
            go_simp
            all_goals (with_reducible rfl)
          try simp only [Act.put, List.setIfInBounds_toArray, List.set_cons_zero, List.set_cons_succ]
          refine wpAnyH_take (i := 1) (oi := ⟨some 74, _, _, _, _, _⟩) (v := ?_) rfl (by kernel_rfl) (by kernel_rfl) (by kernel_rfl) (fun _ _ _ h => h) (Or.inl ⟨by kernel_rfl, ?_⟩) (by assumption) ?_
          rotate_left
          · intro W hSw
            try dsimp only at hSw
            go_simp
            all_goals (with_reducible rfl)
          try simp only [Act.put, List.setIfInBounds_toArray, List.set_cons_zero, List.set_cons_succ]
          refine wpAnyH_take (i := 2) (oi := ⟨some 75, _, _, _, _, _⟩) (v := ?_) rfl (by kernel_rfl) (by kernel_rfl) (by kernel_rfl) (fun _ _ _ h => h) (Or.inl ⟨by kernel_rfl, ?_⟩) (by assumption) ?_
          rotate_left
          · intro W hSw
            try dsimp only at hSw
            go_simp
            all_goals (with_reducible rfl)
          try simp only [Act.put, List.setIfInBounds_toArray, List.set_cons_zero, List.set_cons_succ]
          refine wpAnyH_take (i := 3) (oi := ⟨some 76, _, _, _, _, _⟩) (v := ?_) rfl (by kernel_rfl) (by kernel_rfl) (by kernel_rfl) (fun _ _ _ h => h) (Or.inl ⟨by kernel_rfl, ?_⟩) (by assumption) ?_
          rotate_left
          · intro W hSw
            try dsimp only at hSw
            go_simp
            all_goals (with_reducible rfl)
          try simp only [Act.put, List.setIfInBounds_toArray, List.set_cons_zero, List.set_cons_succ]
          refine wpAnyH_take (i := 4) (oi := ⟨some 77, _, _, _, _, _⟩) (v := ?_) rfl (by kernel_rfl) (by kernel_rfl) (by kernel_rfl) (fun _ _ _ h => h) (Or.inl ⟨by kernel_rfl, ?_⟩) (by assumption) ?_
          rotate_left
          · intro W hSw
            try dsimp only at hSw
            go_simp
            all_goals (with_reducible rfl)
          try simp only [Act.put, List.setIfInBounds_toArray, List.set_cons_zero, List.set_cons_succ]
          refine wpAnyH_take (i := 5) (oi := ⟨some 78, _, _, _, _, _⟩) (v := ?_) rfl (by kernel_rfl) (by kernel_rfl) (by kernel_rfl) (fun _ _ _ h => h) (Or.inl ⟨by kernel_rfl, ?_⟩) (by assumption) ?_
          rotate_left
          · intro W hSw
            try dsimp only at hSw
            go_simp
            all_goals (with_reducible rfl)
          try simp only [Act.put, List.setIfInBounds_toArray, List.set_cons_zero, List.set_cons_succ]
          refine wpAnyH_ready (rs := [6]) (by kernel_rfl) (by simp) ?_
          refine AllReadyH.cons (o := { dst := none, op := Go.Op.store 3 (Go.Operand.tmp 78) (Go.Operand.const (Go.Value.int Go.IntKind.i64 2)), type := 0, pos := "from.go:124", after := #[{ on := 5, ground := Go.Ground.data }, { on := 0, ground := Go.Ground.textOnly Go.Departure.lateStores }, { on := 1, ground := Go.Ground.textOnly Go.Departure.lateStores }, { on := 2, ground := Go.Ground.textOnly Go.Departure.lateStores }, { on := 3, ground := Go.Ground.textOnly Go.Departure.lateStores }, { on := 4, ground := Go.Ground.textOnly Go.Departure.lateStores }], guard := none }) rfl (fun K hK => ?_) AllReadyH.nil
          refine wp_store_one 3 (.tmp 78) (.const (.int .i64 2)) rfl g 2 (.int .i64 2) rfl rfl rfl int_oneT 50 _ (HN7.out.step (Below.refl _ _).drew).fb _ rfl ?_
          intro V8 hV hG hZ8
          have HN8 := Lib.hid ((HN7.out.step (Below.refl _ _).drew).put hV hG)
          clear hV hG hZ8
          refine hK.out _ _ (by exact HS12.out _ HN8.out.below) (fun hHeld2 => ?_)
          clear hK K hHeld
          have hHeld := hHeld2
          clear hHeld2
          try simp only [Act.put]
          refine wpAnyH_take (i := 7) (oi := ⟨some 79, _, _, _, _, _⟩) (v := ?_) rfl (by kernel_rfl) (by kernel_rfl) (by kernel_rfl) (fun _ _ _ h => h) (Or.inl ⟨by kernel_rfl, ?_⟩) (by assumption) ?_
          rotate_left
          · intro W hSw
            try dsimp only at hSw
            go_simp
            all_goals (with_reducible rfl)
          try simp only [Act.put, List.setIfInBounds_toArray, List.set_cons_zero, List.set_cons_succ]
          refine wpAnyH_ready (rs := [8]) (by kernel_rfl) (by simp) ?_
          refine AllReadyH.cons (o := { dst := none, op := Go.Op.store 3 (Go.Operand.tmp 79) (Go.Operand.tmp 77), type := 0, pos := "from.go:124", after := #[{ on := 7, ground := Go.Ground.data }, { on := 4, ground := Go.Ground.data }, { on := 6, ground := Go.Ground.chain }, { on := 0, ground := Go.Ground.phase }, { on := 1, ground := Go.Ground.phase }, { on := 2, ground := Go.Ground.phase }, { on := 3, ground := Go.Ground.phase }, { on := 4, ground := Go.Ground.phase }, { on := 5, ground := Go.Ground.phase }, { on := 6, ground := Go.Ground.phase }], guard := none }) rfl (fun K hK => ?_) AllReadyH.nil
          refine wp_store_one 3 (.tmp 79) (.tmp 77) rfl g 1 (.int .i64 T.q.kind) rfl rfl rfl int_oneT 50 _ HN8.out.fb _ rfl ?_
          intro V9 hV hG hZ9
          have HN9 := Lib.hid (show NoB w A c n g [.slice none 0 0, .int .i64 T.q.kind, .int .i64 2, .int .i64 2, .int .i64 0, .int .i64 tt, .slice none 0 0, .slice zA r.name.length zc, .slice yb r.data.bytes.length cb, .slice yh r.data.host.length ch, .slice ym r.data.mail.length cm, .slice (some ⟨gn, 0, none⟩) r.data.nums.length cn, .slice yt r.data.texts.length ct] zA zc r.name ⟨yb, yh, ym, some ⟨gn, 0, none⟩, yt, cb, ch, cm, cn, ct⟩ r.data V9 from HN8.out.put hV hG)
          clear hV hG hZ9
          refine hK.out _ _ (by exact HS12.out _ HN9.out.below) (fun hHeld2 => ?_)
          clear hK K hHeld
          have hHeld := hHeld2
          clear hHeld2
          try simp only [Act.put]
          refine wpAnyH_done (by kernel_rfl) ?_ _
          have f0 : V9.cell? ⟨g, 0, none⟩ = some (.slice none 0 0) := HN9.out.fb.cell 0
          have f1 : V9.cell? ⟨g, 1, none⟩ = some (.int .i64 T.q.kind) := HN9.out.fb.cell 1
          have f2 : V9.cell? ⟨g, 2, none⟩ = some (.int .i64 2) := HN9.out.fb.cell 2
          have f3 : V9.cell? ⟨g, 3, none⟩ = some (.int .i64 2) := HN9.out.fb.cell 3
          have f4 : V9.cell? ⟨g, 4, none⟩ = some (.int .i64 0) := HN9.out.fb.cell 4
          have f5 : V9.cell? ⟨g, 5, none⟩ = some (.int .i64 tt) := HN9.out.fb.cell 5
          have f6 : V9.cell? ⟨g, 6, none⟩ = some (.slice none 0 0) := HN9.out.fb.cell 6
          have f7 : V9.cell? ⟨g, 7, none⟩ = some (.slice zA r.name.length zc) := HN9.out.fb.cell 7
          have f8 : V9.cell? ⟨g, 8, none⟩ = some (.slice yb r.data.bytes.length cb) := HN9.out.fb.cell 8
          have f9 : V9.cell? ⟨g, 9, none⟩ = some (.slice yh r.data.host.length ch) := HN9.out.fb.cell 9
          have f10 : V9.cell? ⟨g, 10, none⟩ = some (.slice ym r.data.mail.length cm) := HN9.out.fb.cell 10
          have f11 : V9.cell? ⟨g, 11, none⟩ = some (.slice (some ⟨gn, 0, none⟩) r.data.nums.length cn) := HN9.out.fb.cell 11
          have f12 : V9.cell? ⟨g, 12, none⟩ = some (.slice yt r.data.texts.length ct) := HN9.out.fb.cell 12
          have nn : V9.cell? ⟨w.heap.size, 0, none⟩ = some (.slice A n.length c) := HN9.out.nb.cell 0
          have HADD := Lib.hid (show Calls Try.prog 85 #[.pointer (some ⟨b, 0, none⟩), .slice A n.length c, .agg #[.slice none 0 0, .int .i64 T.q.kind, .int .i64 2, .int .i64 2, .int .i64 0, .int .i64 tt, .slice none 0 0, .slice zA r.name.length zc, .slice yb r.data.bytes.length cb, .slice yh r.data.host.length ch, .slice ym r.data.mail.length cm, .slice (some ⟨gn, 0, none⟩) r.data.nums.length cn, .slice yt r.data.texts.length ct]] V9 (fun e w' => e = .returned (.tuple #[]) ∧ TellOut w0 T b an au ex xs 1 V9 w') from
            HAPP.out V9 HN9.out.below ⟨none, 0, [], ⟨T.q.kind, 2, 2, 0, tt⟩, none, 0, [], zA, zc, r.name, ⟨yb, yh, ym, some ⟨gn, 0, none⟩, yt, cb, ch, cm, cn, ct⟩, r.data⟩
              ⟨own_mono HN9.out.z HSZ.out, HN9.out.d.monoB HSZ.out, World.ownsRow_nil _ _ _ _, fun _ h => absurd h (List.not_mem_nil)⟩
              ⟨HWQ.out, (show (Lit.int .i64 2).wf = true by decide), (show (Lit.int .i64 2).wf = true by decide), wf_i64 (show _ ≤ tt by have := HTT.out; omega) (show tt ≤ _ by have := HTT.out; omega), ⟨soundN_sz HRN.out, by have := sound_few HRN.out; show r.name.length ≤ 300; omega, soundN_wide HRN.out⟩, fun _ h => absurd h (List.not_mem_nil), sound_small HSD.out⟩
              (fun hf => HTOLD.out T.q.kind 2 2 tt (.inl rfl) hf))
          go_wp2_with (go_at_call 85; refine HADD.out.mono ?_; rintro e w9 ⟨rfl, v9, xs9, k1, k2, k3, k4⟩)
          first | go_end0 | refine bodyPost_ret (results_none rfl _ _ _) rfl ?_
          exact ⟨rfl, v9, xs9, k1, k2, (KeptT.below HN9.out.below).trans k3, Nat.le_trans HN9.out.below.size k4⟩)

end Go.Proofs.Ythppgofpbpjglaa
