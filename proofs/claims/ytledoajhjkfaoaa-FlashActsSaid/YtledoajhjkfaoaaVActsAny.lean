/-
  FlashActs, at every number of sectors.
-/
import Derived.Test.YtledoajhjkfaoaaVActsLaw
namespace Go.Proofs.Ytledoajhjkfaoaa
open Go.RowKit

theorem acts_any (n : Int) (A : Option Addr) (c : Nat) (acts : List Ac) (w : World) (hA : ActsIn w w.heap.size A acts) (hl : acts.length ≤ maxLen) :
    Calls Try.prog 3 #[.int .i64 n, .slice A acts.length c] w (TrueB w) := by
  by_cases hn : n < 1 ∨ 4096 < n
  · exact acts_bad n hn A c acts.length w
  · obtain ⟨k, rfl⟩ : ∃ k : Nat, n = k := ⟨n.toNat, by omega⟩
    by_cases h6 : 60 < k
    · exact acts_many k h6 (by omega) A c acts.length w
    · exact acts_in k (by omega) (by omega) A c acts w hA hl

end Go.Proofs.Ytledoajhjkfaoaa
