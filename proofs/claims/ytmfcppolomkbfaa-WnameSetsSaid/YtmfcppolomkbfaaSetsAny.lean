/-
  WnameSets at any bytes and numbers.
-/
import Derived.Test.YtmfcppolomkbfaaSetsLaw
namespace Go.Proofs.Ytmfcppolomkbfaa
open Go.RowKit

theorem sets_any (A : Option Addr) (m c : Nat) (b : List UInt8) (q n s : Int) (w : World) (hbl : b.length = m) (hrow : Row w w.heap.size A (b.map bc)) (hm : m ≤ maxLen) (hc : m ≤ c) (hn : n ≤ 9223372036854775807) :
    Calls Try.prog 7 #[.slice A m c, .int .i64 q, .int .i64 n, .int .i64 s] w (TrueB w) := by
  by_cases h5 : m ≤ 5000
  · cases hf : fitB n s with
    | false => exact sets_misfit A m c b q n s w hbl hrow h5 hn hf
    | true =>
      by_cases h1 : q < 0
      · exact sets_neg A m c b q n s w hbl hrow h5 hn hf h1
      · by_cases h2 : (m : Int) < q
        · exact sets_far A m c b q n s w hbl hrow h5 hn hf (by omega) h2
        · by_cases h3 : (m : Int) - q < s
          · exact sets_few A m c b q n s w hbl hrow h5 hn hf (by omega) (by omega) h3
          · obtain ⟨hs1, hs2, hn0⟩ := fitB_size hf
            obtain ⟨q', rfl⟩ : ∃ k : Nat, q = k := ⟨q.toNat, by omega⟩
            obtain ⟨n', rfl⟩ : ∃ k : Nat, n = k := ⟨n.toNat, by omega⟩
            obtain ⟨s', rfl⟩ : ∃ k : Nat, s = k := ⟨s.toNat, by omega⟩
            exact sets_good A m c b q' n' s' w hbl hrow h5 hc hn hf (by omega)
  · exact sets_dark A m c q n s w (by omega) hm

end Go.Proofs.Ytmfcppolomkbfaa
