/-
  The contract of the statements' light.
-/
import Derived.Test.YtjjmllbkfbdcnaaData
import Derived.Test.YtjjmllbkfbdcnaaSound
namespace Go.Proofs.Ytjjmllbkfbdcnaa
open Go.RowKit

theorem lightD_host {d : Dt} {k : Nat} (h : k < d.host.length) (hp : 300 < (d.host[k]).length) : lightD d = false := by
  unfold lightD
  rw [all_not (fun l : List UInt8 => decide (l.length ≤ 300)) h (by simp; omega)]
  rfl
theorem lightD_mail {d : Dt} {k : Nat} (h : k < d.mail.length) (hp : 300 < (d.mail[k]).length) : lightD d = false := by
  unfold lightD
  rw [all_not (n := d.mail) (fun l : List UInt8 => decide (l.length ≤ 300)) h (by simp; omega)]
  simp
theorem lightD_texts {d : Dt} {k : Nat} (h : k < d.texts.length) (hp : 600 < (d.texts[k]).length) : lightD d = false := by
  unfold lightD
  rw [all_not (n := d.texts) (fun l : List UInt8 => decide (l.length ≤ 600)) h (by simp; omega)]
  simp
def LightRel (n : List (List UInt8)) (M : Nat) (i : Value) : Prop := ∃ k : Nat, k ≤ n.length ∧ i = .int .i64 k ∧ (n.take k).all (fun l => decide (l.length ≤ M)) = true

set_option maxRecDepth 4000 in
set_option maxHeartbeats 2000000 in
theorem light_any (x : DV) (d : Dt) (w : World) (h : DataAt w w.heap.size x d) (kh : d.host.length ≤ maxLen) (km : d.mail.length ≤ maxLen) (kt : d.texts.length ≤ maxLen)
    (lh : ∀ k (h : k < d.host.length), (d.host[k]).length ≤ maxLen) (lm : ∀ k (h : k < d.mail.length), (d.mail[k]).length ≤ maxLen) (lt : ∀ k (h : k < d.texts.length), (d.texts[k]).length ≤ maxLen) :
    Calls Try.prog 10 #[x.val d] w (Gave w (.bool (lightD d))) := by
  have kb : d.bytes.length ≤ maxLen := Nat.le_trans h.lb h.kb
  have kn : d.nums.length ≤ maxLen := Nat.le_trans h.ln h.kn
  unfold maxLen at kh km kt kb kn
  obtain ⟨W, hW⟩ : ∃ W, W = w.alloc (.cells #[.slice x.Ab d.bytes.length x.cb, .slice x.Ah d.host.length x.ch, .slice x.Am d.mail.length x.cm, .slice x.An d.nums.length x.cn, .slice x.At d.texts.length x.ct] 26) := ⟨_, rfl⟩
  have hD : DataAt W w.heap.size x d := by rw [hW]; exact h.alloc (Nat.le_refl _) _
  have hB : Below w.heap.size w W := by rw [hW]; exact (Below.refl _ _).alloc (Nat.le_refl _) _
  have hwh : Whole W w.heap.size 26 [x.vb d, x.vh d, x.vm d, x.vn d, x.vt d] := by rw [hW]; exact Whole.made w [x.vb d, x.vh d, x.vm d, x.vn d, x.vt d] _
  have c0 : W.cell? ⟨w.heap.size, 0, none⟩ = some (.slice x.Ab d.bytes.length x.cb) := hwh.cell 0
  have c1 : W.cell? ⟨w.heap.size, 1, none⟩ = some (.slice x.Ah d.host.length x.ch) := hwh.cell 1
  have c2 : W.cell? ⟨w.heap.size, 2, none⟩ = some (.slice x.Am d.mail.length x.cm) := hwh.cell 2
  have c3 : W.cell? ⟨w.heap.size, 3, none⟩ = some (.slice x.An d.nums.length x.cn) := hwh.cell 3
  have c4 : W.cell? ⟨w.heap.size, 4, none⟩ = some (.slice x.At d.texts.length x.ct) := hwh.cell 4
  have HB := Lib.hid hB
  have HD := Lib.hid hD
  have HLH := Lib.hid lh
  have HLM := Lib.hid lm
  have HLT := Lib.hid lt
  clear hB hD hwh h lh lm lt
  go_enter Try.func10, Try.ntmps10
  go_wp2
  rw [← hW]
  clear hW
  go_loop [3] (LightRel d.host 300) (fun i => d.host.length - (intOf i).toNat)
  case atStart => exact ⟨0, Nat.zero_le _, rfl, rfl⟩
  case round =>
   obtain ⟨k, hk, rfl, hal⟩ := hrel
   by_cases hlt : k < d.host.length
   · obtain ⟨bhost, ohost, hA, _, hcel⟩ := Row.name_at HD.out.h hlt
     have hln := HLH.out k hlt
     unfold maxLen at hln
     by_cases hbig : 300 < (d.host[k]).length
     · have d1 : decide ((300 : Int) < ((d.host[k]).length : Int)) = true := by simp; omega
       have HF := Lib.hid (lightD_host hlt hbig)
       rw [hA] at c1
       go_wp2
       go_ret
       exact ⟨by rw [HF.out]; rfl, HB.out⟩
     · have d1 : decide ((300 : Int) < ((d.host[k]).length : Int)) = false := by simp; omega
       have HS := Lib.hid (all_snoc (fun l : List UInt8 => decide (l.length ≤ 300)) hlt hal (by simp; omega))
       clear hal
       rw [hA] at c1
       go_wp2
       exact ⟨⟨k + 1, by omega, by go_num, HS.out⟩, by simp [intOf]; omega⟩
   · obtain rfl : k = d.host.length := by omega
     have HH := Lib.hid hal
     clear hal
     go_wp2
     go_loop [4] (LightRel d.mail 300) (fun i => d.mail.length - (intOf i).toNat)
     case atStart => exact ⟨0, Nat.zero_le _, rfl, rfl⟩
     case round =>
      obtain ⟨k, hk, rfl, hal⟩ := hrel
      by_cases hlt : k < d.mail.length
      · obtain ⟨bmail, omail, hA, _, hcel⟩ := Row.name_at HD.out.m hlt
        have hln := HLM.out k hlt
        unfold maxLen at hln
        by_cases hbig : 300 < (d.mail[k]).length
        · have d1 : decide ((300 : Int) < ((d.mail[k]).length : Int)) = true := by simp; omega
          have HF := Lib.hid (lightD_mail hlt hbig)
          rw [hA] at c2
          go_wp2
          go_ret
          exact ⟨by rw [HF.out]; rfl, HB.out⟩
        · have d1 : decide ((300 : Int) < ((d.mail[k]).length : Int)) = false := by simp; omega
          have HS := Lib.hid (all_snoc (fun l : List UInt8 => decide (l.length ≤ 300)) hlt hal (by simp; omega))
          clear hal
          rw [hA] at c2
          go_wp2
          exact ⟨⟨k + 1, by omega, by go_num, HS.out⟩, by simp [intOf]; omega⟩
      · obtain rfl : k = d.mail.length := by omega
        have HM := Lib.hid hal
        clear hal
        go_wp2
        go_loop [5] (LightRel d.texts 600) (fun i => d.texts.length - (intOf i).toNat)
        case atStart => exact ⟨0, Nat.zero_le _, rfl, rfl⟩
        case round =>
         obtain ⟨k, hk, rfl, hal⟩ := hrel
         by_cases hlt : k < d.texts.length
         · obtain ⟨btexts, otexts, hA, _, hcel⟩ := Row.name_at HD.out.t hlt
           have hln := HLT.out k hlt
           unfold maxLen at hln
           by_cases hbig : 600 < (d.texts[k]).length
           · have d1 : decide ((600 : Int) < ((d.texts[k]).length : Int)) = true := by simp; omega
             have HF := Lib.hid (lightD_texts hlt hbig)
             rw [hA] at c4
             go_wp2
             go_ret
             exact ⟨by rw [HF.out]; rfl, HB.out⟩
           · have d1 : decide ((600 : Int) < ((d.texts[k]).length : Int)) = false := by simp; omega
             have HS := Lib.hid (all_snoc (fun l : List UInt8 => decide (l.length ≤ 600)) hlt hal (by simp; omega))
             clear hal
             rw [hA] at c4
             go_wp2
             exact ⟨⟨k + 1, by omega, by go_num, HS.out⟩, by simp [intOf]; omega⟩
         · obtain rfl : k = d.texts.length := by omega
           have HT := Lib.hid hal
           clear hal
           have HALL := Lib.hid (show lightD d = (decide (d.host.length ≤ 300) && (decide (d.mail.length ≤ 300) && (decide (d.texts.length ≤ 200) && (decide (d.nums.length ≤ 200) && decide (d.bytes.length ≤ 70000))))) by
              have h1 := HH.out
              have h2 := HM.out
              have h3 := HT.out
              rw [List.take_length] at h1 h2 h3
              unfold lightD
              rw [h1, h2, h3]
              simp [Bool.and_assoc])
           by_cases e1 : d.host.length ≤ 300
           case neg =>
             have t1 : decide ((d.host.length : Int) ≤ 300) = false := by simp; omega
             rw [show decide (d.host.length ≤ 300) = false by simp; omega] at HALL
             go_wp2
             go_ret
             exact ⟨by rw [HALL.out]; rfl, HB.out⟩
           have t1 : decide ((d.host.length : Int) ≤ 300) = true := by simp; omega
           rw [show decide (d.host.length ≤ 300) = true by simp; omega] at HALL
           by_cases e2 : d.mail.length ≤ 300
           case neg =>
             have t2 : decide ((d.mail.length : Int) ≤ 300) = false := by simp; omega
             rw [show decide (d.mail.length ≤ 300) = false by simp; omega] at HALL
             go_wp2
             go_ret
             exact ⟨by rw [HALL.out]; rfl, HB.out⟩
           have t2 : decide ((d.mail.length : Int) ≤ 300) = true := by simp; omega
           rw [show decide (d.mail.length ≤ 300) = true by simp; omega] at HALL
           by_cases e3 : d.texts.length ≤ 200
           case neg =>
             have t3 : decide ((d.texts.length : Int) ≤ 200) = false := by simp; omega
             rw [show decide (d.texts.length ≤ 200) = false by simp; omega] at HALL
             go_wp2
             go_ret
             exact ⟨by rw [HALL.out]; rfl, HB.out⟩
           have t3 : decide ((d.texts.length : Int) ≤ 200) = true := by simp; omega
           rw [show decide (d.texts.length ≤ 200) = true by simp; omega] at HALL
           by_cases e4 : d.nums.length ≤ 200
           case neg =>
             have t4 : decide ((d.nums.length : Int) ≤ 200) = false := by simp; omega
             rw [show decide (d.nums.length ≤ 200) = false by simp; omega] at HALL
             go_wp2
             go_ret
             exact ⟨by rw [HALL.out]; rfl, HB.out⟩
           have t4 : decide ((d.nums.length : Int) ≤ 200) = true := by simp; omega
           rw [show decide (d.nums.length ≤ 200) = true by simp; omega] at HALL
           by_cases e5 : d.bytes.length ≤ 70000
           · have t5 : decide ((d.bytes.length : Int) ≤ 70000) = true := by simp; omega
             rw [show decide (d.bytes.length ≤ 70000) = true by simp; omega] at HALL
             go_wp2
             go_ret
             exact ⟨by rw [HALL.out]; rfl, HB.out⟩
           · have t5 : decide ((d.bytes.length : Int) ≤ 70000) = false := by simp; omega
             rw [show decide (d.bytes.length ≤ 70000) = false by simp; omega] at HALL
             go_wp2
             go_ret
             exact ⟨by rw [HALL.out]; rfl, HB.out⟩


end Go.Proofs.Ytjjmllbkfbdcnaa
