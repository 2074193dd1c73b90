/-
  DatasetGets: what the law's walk leans on: the dataset that is read, put. Condition: at most 5000 bytes.
-/
import Derived.Test.YtbmbgfmhejahjaaDBack2
namespace Go.Proofs.Ytbmbgfmhejahjaa
open Go.RowKit

/-- What is read is small enough. -/
theorem gVs_small {l : List UInt8} (h : gtE l = 0) (hl : l.length ≤ 5000) : (gVs l).length ≤ 1000 ∧ (gTs l).length ≤ 1000 := by
  have := gS_le h
  rw [gVs_len, gTs_len]
  unfold gS at this
  omega
theorem gr_small (l : List UInt8) : (-9223372036854775808 ≤ ((gr l : Nat) : Int) ∧ ((gr l : Nat) : Int) ≤ 9223372036854775807) ∧ (-9223372036854775808 ≤ ((gq l : Nat) : Int) ∧ ((gq l : Nat) : Int) ≤ 9223372036854775807) := by
  have h1 := num_small (l.drop 18) 4 (by decide)
  have h2 := num_two (l.drop 22)
  unfold gr gq
  omega
end Go.Proofs.Ytbmbgfmhejahjaa
