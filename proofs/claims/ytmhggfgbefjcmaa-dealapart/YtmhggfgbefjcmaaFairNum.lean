/-
  The last number that will do, reckoned otherwise. Conditions: n is above 0 and below 2^64.
-/
import Derived.Test.YtmhggfgbefjcmaaListU
namespace Go.Proofs.Ytmhggfgbefjcmaa
open Go.RowKit

theorem lastI_eq (n : Int) (_ : 0 < n) : lastI n = 18446744073709551616 / n * n - 1 := by
  unfold lastI
  have e : (18446744073709551616 - n) % n = 18446744073709551616 % n := by rw [Int.sub_emod, Int.emod_self, Int.sub_zero, Int.emod_emod_of_dvd _ (Int.dvd_refl n)]
  have := Int.emod_add_ediv_mul 18446744073709551616 n
  rw [e]; omega

theorem last_pos (n : Int) (h0 : 0 < n) (h1 : n < 18446744073709551616) : 0 ≤ lastI n ∧ lastI n < 18446744073709551616 := by
  unfold lastI
  have a := Int.emod_nonneg (18446744073709551616 - n) (by omega : n ≠ 0)
  have b := Int.emod_lt_of_pos (18446744073709551616 - n) h0
  omega
end Go.Proofs.Ytmhggfgbefjcmaa
