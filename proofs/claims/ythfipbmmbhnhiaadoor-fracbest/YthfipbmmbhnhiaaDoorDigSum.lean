/-
  THE DOCUMENT'S SUM of two rows of digits: one digit more, the sum of the numbers. Condition: digits, as many of each.
-/
import Derived.Test.YthfipbmmbhnhiaaDoorDigCmp
namespace Go.Proofs.YthfipbmmbhnhiaaDoor
open Go.RowKit

/-- One step of the sum. -/
theorem sum_step {o a b : List Int} {j : Nat} {c : Int} (ha : j < a.length) (hb : j < b.length) (hj : o.length = j) (h : val o + c * 65536 ^ j = val (a.take j) + val (b.take j)) :
    val (o ++ [(a.getD j 0 + b.getD j 0 + c) % 65536]) + (a.getD j 0 + b.getD j 0 + c) / 65536 * 65536 ^ (j + 1) = val (a.take (j + 1)) + val (b.take (j + 1)) := by
  rw [val_append, val_take a j ha, val_take b j hb, hj]
  simp only [val, Int.pow_succ]
  have e := Int.mul_ediv_add_emod (a.getD j 0 + b.getD j 0 + c) 65536
  generalize (a.getD j 0 + b.getD j 0 + c) / 65536 = q at *
  generalize (a.getD j 0 + b.getD j 0 + c) % 65536 = r at *
  have e2 : c = 65536 * q + r - a.getD j 0 - b.getD j 0 := by omega
  subst e2
  grind

end Go.Proofs.YthfipbmmbhnhiaaDoor
