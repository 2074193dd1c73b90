/-
  THE CHAPTER's EXAMPLES of rank, and which numbers are keys by the document. Condition: the number is of 64 bits.
-/
import Derived.Test.YtjaogmbeoldefaaRefRank
namespace Go.Proofs.Ytjaogmbeoldefaa
open Go.RowKit

theorem isK_iff (k : Nat) (h : k < 18446744073709551616) : isK k ↔ (k = 0 ∨ (4503599627370495 ≤ k ∧ k ≤ 18442240474082181120 ∧ k ≠ 9223372036854775807)) := by
  unfold isK
  by_cases hh : 9223372036854775808 ≤ k
  · have e : tb k = k - 9223372036854775808 := by unfold tb; rw [if_pos hh]; omega
    rw [e]
    unfold key
    by_cases hm : mis (k - 9223372036854775808)
    · rw [if_pos hm]; unfold mis at hm; omega
    · rw [if_neg hm]
      unfold mis at hm
      split
      · omega
      · split <;> omega
  · have e : tb k = 18446744073709551615 - k := by unfold tb; rw [if_neg hh]
    rw [e]
    unfold key
    by_cases hm : mis (18446744073709551615 - k)
    · rw [if_pos hm]; unfold mis at hm; omega
    · rw [if_neg hm]
      unfold mis at hm
      split
      · omega
      · split <;> omega

end Go.Proofs.Ytjaogmbeoldefaa
