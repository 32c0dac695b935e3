/-
  Two Writers and a row of numbers beside each other; the document's Sound of any name; what stands where of several names.
-/
import Derived.Test.YtjjmllbkfbdcnaaWName
namespace Go.Proofs.Ytjjmllbkfbdcnaa
open Go.RowKit

theorem int_info : (Try.prog.info? 3).map (fun i => (i.zero, i.size, i.bytes)) = some (some (.int .i64 0), 1, 8) := by kernel_rfl
/-- A number as a cell. -/
def iv (n : Nat) : Value := .int .i64 (n : Int)
theorem iv_one (l : List Nat) : ∀ u ∈ l.map iv, u.oneCell' = true := by
  intro u hu
  obtain ⟨x, _, rfl⟩ := List.mem_map.1 hu
  rfl

structure Two (w : World) (base g1 : Nat) (vB1 vM1 : Value) (B1 : List UInt8) (R1 : Rs) (g2 : Nat) (vB2 vM2 : Value) (B2 : List UInt8) (R2 : Rs) (va : Value) (ats : List Nat) : Prop where
  w1 : Wr w base g1 vB1 vM1 B1 R1
  w2 : Wr w base g2 vB2 vM2 B2 R2
  row : w.ownsRow base 3 1 va ats.length (ats.map iv)
  d12 : ∀ j, ownF g1 vB1 vM1 j → ¬ ownF g2 vB2 vM2 j
  d1 : ∀ j, ownF g1 vB1 vM1 j → va.ownBlock ≠ some j
  d2 : ∀ j, ownF g2 vB2 vM2 j → va.ownBlock ≠ some j

theorem own_capM {w : World} {base : Nat} {t : TypeId} {A : Option Addr} {n c : Nat} {xs : List Value} {size : Nat} (h : w.ownsRow base t size (.slice A n c) n xs) : c ≤ maxLen := by
  obtain ⟨A', c', e, _, h2⟩ := own_form h
  injection e with _ _ e
  omega
theorem ownF_new {g j : Nat} (h : ownF g (.slice none 0 0) (.map none) j) : j = g := by
  rcases h with h | h | h
  · exact h
  · simp [Value.ownBlock] at h
  · cases h
section
variable {w w' : World} {base g1 : Nat} {vB1 vM1 : Value} {B1 : List UInt8} {R1 : Rs} {g2 : Nat} {vB2 vM2 : Value} {B2 : List UInt8} {R2 : Rs} {va : Value} {ats : List Nat}
theorem Two.swap (h : Two w base g1 vB1 vM1 B1 R1 g2 vB2 vM2 B2 R2 va ats) : Two w base g2 vB2 vM2 B2 R2 g1 vB1 vM1 B1 R1 va ats :=
  ⟨h.w2, h.w1, h.row, fun j h2 h1 => h.d12 j h1 h2, h.d2, h.d1⟩
theorem Two.below (h : Two w base g1 vB1 vM1 B1 R1 g2 vB2 vM2 B2 R2 va ats) (hb : Below w.heap.size w w') : Two w' base g1 vB1 vM1 B1 R1 g2 vB2 vM2 B2 R2 va ats :=
  ⟨h.w1.below hb, h.w2.below hb, own_keep h.row fun j hj => hb.block j (h.row.lt j hj).2, h.d12, h.d1, h.d2⟩
theorem Penned.below {B : List UInt8} {R : Rs} {g : Nat} {vB vM : Value} {B0 : List UInt8} {R0 : Rs} (hw : Wr w base g vB vM B0 R0) (h : Penned base w g vB vM B R w') : Below base w w' := by
  obtain ⟨_, _, _, hg, _⟩ := h
  exact hg.below (fun j hj => (hw.own hj).1) hw.size
theorem Two.pen (h : Two w base g1 vB1 vM1 B1 R1 g2 vB2 vM2 B2 R2 va ats) {B : List UInt8} {R : Rs} (hp : Penned base w g1 vB1 vM1 B R w') : ∃ vB vM, Two w' base g1 vB vM B R g2 vB2 vM2 B2 R2 va ats := by
  obtain ⟨vB, vM, h1, hg, hf⟩ := hp
  refine ⟨vB, vM, h1, h.w2.grew hg fun j hj h1 => h.d12 j h1 hj, own_grew h.row hg fun j hj h1 => h.d1 j h1 hj, fun j hj h2 => ?_, fun j hj => ?_, h.d2⟩
  · rcases hf j hj with h3 | h3
    · exact h.d12 j h3 h2
    · have := (h.w2.own h2).2; omega
  · rcases hf j hj with h3 | h3
    · exact h.d1 j h3
    · intro e
      have := (h.row.lt j e).2; omega
/-- The row has grown. -/
theorem Two.grown (h : Two w base g1 vB1 vM1 B1 R1 g2 vB2 vM2 B2 R2 va ats) {va' : Value} {a : Nat} (ho : w'.ownsRow base 3 1 va' (ats.length + 1) (ats.map iv ++ [iv a])) (hg : w.grownBy w' va.ownBlock) (hat : va'.ownBlock = va.ownBlock ∨ va'.ownBlock = some w.heap.size) :
    Two w' base g1 vB1 vM1 B1 R1 g2 vB2 vM2 B2 R2 va' (ats ++ [a]) := by
  have hG : Grew (fun j => va.ownBlock = some j) w w' := Grew.of_grown hg fun j hj => .inl hj
  have hn : ∀ j, va'.ownBlock = some j → va.ownBlock = some j ∨ w.heap.size ≤ j := fun j hj => by
    rcases hat with e | e
    · exact .inl (by rw [← e]; exact hj)
    · rw [e] at hj; injection hj with hj; exact .inr (by omega)
  refine ⟨h.w1.grew hG fun j hj e => h.d1 j hj e, h.w2.grew hG fun j hj e => h.d2 j hj e, by simpa using ho, h.d12, fun j hj e => ?_, fun j hj e => ?_⟩
  · rcases hn j e with h3 | h3
    · exact h.d1 j hj h3
    · have := (h.w1.own hj).2; omega
  · rcases hn j e with h3 | h3
    · exact h.d2 j hj h3
    · have := (h.w2.own hj).2; omega
end

set_option maxHeartbeats 400000 in
/-- The document's Sound of any name, however large. -/
theorem ref_sound_free (A : Option Addr) (c H : Nat) (n : List (List UInt8)) (w : World) (hA : Row w H A (n.map sv)) (_ : n.length ≤ maxLen) (hs : ∀ k (h : k < n.length), (n[k]).length ≤ maxLen) :
    Calls Try.prog 12 #[.slice A n.length c] w (Told w (.bool (soundN n))) := by
  have HA := Lib.hid hA
  have HS := Lib.hid hs
  clear hA hs
  by_cases h127 : n.length ≤ 127
  · have d1 : decide (127 < (n.length : Int)) = false := by simp; omega
    go_enter Try.func12, Try.ntmps12
    go_wp2
    go_loop [3] (EveryRel n) (fun i => n.length - (intOf i).toNat)
    case atStart => exact ⟨0, Nat.zero_le _, rfl, by simp⟩
    case round =>
      obtain ⟨k, hk, rfl, hall⟩ := hrel
      have HK := Lib.hid hall
      clear hall
      by_cases hlt : k < n.length
      · obtain ⟨b, off, rfl, _, hc⟩ := HA.out.name_at hlt
        have hle := HS.out k hlt
        unfold maxLen at hle
        by_cases e1 : 1 ≤ (n[k]).length
        · have d2 : decide (((n[k]).length : Int) < 1) = false := by simp; omega
          by_cases e2 : (n[k]).length ≤ 63
          · have d3 : decide (63 < ((n[k]).length : Int)) = false := by simp; omega
            have HF := Lib.hid (all_snoc fitL hlt HK.out (by simp [fitL]; omega))
            go_wp2
            exact ⟨⟨k + 1, by omega, by go_num, HF.out⟩, by simp [intOf]; omega⟩
          · have d3 : decide (63 < ((n[k]).length : Int)) = true := by simp; omega
            have HF := Lib.hid (all_not fitL hlt (by simp [fitL]; omega))
            go_wp2
            go_ret
            exact ⟨ret_bool (by simp [soundN, HF.out]), rfl⟩
        · have d2 : decide (((n[k]).length : Int) < 1) = true := by simp; omega
          have HF := Lib.hid (all_not fitL hlt (by simp [fitL]; omega))
          go_wp2
          go_ret
          exact ⟨ret_bool (by simp [soundN, HF.out]), rfl⟩
      · obtain rfl : k = n.length := by omega
        have hall := HK.out
        rw [List.take_length] at hall
        have hsz : szN n ≤ n.length * (63 + 1) + 1 := szN_le 63 n fun l hl => (fitL_iff.1 (List.all_eq_true.1 hall l hl)).2
        have HZ := Lib.hid (ref_size_any A n.length c H n w rfl HA.out (by unfold maxLen; omega))
        have HALL := Lib.hid hall
        clear hall
        go_wp2_with fail
        refine HZ.out.mono ?_
        rintro e w' ⟨rfl, rfl⟩
        go_wp2
        go_ret
        refine ⟨ret_bool ?_, rfl⟩
        simp [soundN, HALL.out]
        omega
  · have HF := Lib.hid (soundN_long (n := n) (by omega))
    have d1 : decide (127 < (n.length : Int)) = true := by simp; omega
    go_enter Try.func12, Try.ntmps12
    go_wp2
    go_ret
    exact ⟨ret_bool HF.out.symm, rfl⟩

/-- The names ns stand in B at the places ats, one behind the other, and B ends with the last one. -/
def Laid (ns : List (List (List UInt8))) (B : List UInt8) (ats : List Nat) : Prop :=
  ats.length = ns.length ∧ ∀ i, i < ns.length → AtN B (ats.getD i 0) (ats.getD i 0) (ns.getD i []) ((ats ++ [B.length]).getD (i + 1) 0)
theorem Laid.nil (B : List UInt8) : Laid [] B [] := ⟨rfl, fun _ h => absurd h (Nat.not_lt_zero _)⟩
theorem getD_left {α : Type} {l m : List α} {i : Nat} {d : α} (h : i < l.length) : (l ++ m).getD i d = l.getD i d := by
  simp [List.getD, List.getElem?_append_left h]
theorem getD_at {α : Type} {l : List α} {a d : α} {i : Nat} (h : i = l.length) : (l ++ [a]).getD i d = a := by
  subst h
  simp [List.getD]
theorem Laid.snoc {ns : List (List (List UInt8))} {B B' S : List UInt8} {ats : List Nat} {n : List (List UInt8)} (h : Laid ns B ats) (hB : B' = B ++ S) (hn : AtN B' B.length B.length n B'.length) : Laid (ns ++ [n]) B' (ats ++ [B.length]) := by
  obtain ⟨h1, h2⟩ := h
  refine ⟨by simp [h1], fun i hi => ?_⟩
  simp only [List.length_append, List.length_cons, List.length_nil] at hi
  by_cases hlt : i < ns.length
  · rw [getD_left (by omega), getD_left hlt, getD_left (by simp; omega)]
    rw [hB]
    exact (h2 i hlt).more S
  · obtain rfl : i = ns.length := by omega
    rw [getD_at h1.symm, getD_at rfl, getD_at (by simp [h1])]
    exact hn

/-- append onto a row of the call's own, as one step of a region that draws. -/
theorem step_append_any {P : Program} {w : World} {ops : Array Oper} {o : Oper} {a : Act} {K : Act → World → Prop} {Q : Exit → Act → World → Prop} {E : Prop} (hgd : o.guard = none) (s x : Operand) (t : TypeId)
    (ho : o.op = .call { callee := .builtin .append, args := #[s, x], argTypes := #[t, t] })
    (base : Nat) (e : TypeId) (i : TypeInfo) (z : Value) (size bytes : Nat) (ht : P.underlying t = some (.slice e)) (hi : P.info? e = some i) (hz : i.zero = some z)
    (hsize : i.size = size) (hby : i.bytes = bytes) (hzs : z.cells.size = size) (hsz : 0 < size)
    (v : Value) (n : Nat) (xs : List Value) (hs : a.eval s = v) (hown : w.ownsRow base e size v n xs)
    (A : Option Addr) (m c H : Nat) (news : List Value) (hx : a.eval x = .slice A m c) (hl : news.length = m * size) (hr : Row w H A news) (h1 : ∀ u ∈ news, u.oneCell' = true)
    (h63 : n + m ≤ maxLen) (hbytes : (n + m) * bytes ≤ 140737488355328) (hbase : base ≤ w.heap.size)
    (h : ∀ v' w', w'.ownsRow base e size v' (n + m) (xs ++ news) → w.grownBy w' v.ownBlock → K (a.put o.dst v') w') : if Region.wanted o (yielded ops a.tmps) = true then Oper.wp P o a w K Q else E := by
  have hw : Region.wanted o (yielded ops a.tmps) = true := by simp [Region.wanted, hgd]
  rw [if_pos hw]
  obtain ⟨v', w', hrun, h2, h3⟩ := append_row_run (P := P) w base t o.type e i z size bytes ht hi hz hsize hby hzs hsz v n xs hown A m c H news hl hr h1 h63 hbytes hbase
  unfold Oper.wp
  simp [execOp, ho, resolve, invoke, builtin, hs, hx, hrun, Result.andThen]
  exact h v' w' h2 h3

end Go.Proofs.Ytjjmllbkfbdcnaa
