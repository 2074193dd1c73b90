/-
  ProdWholes' walk: sums, differences, products, squares and quotients of whole numbers are the document's. Condition: both are of 64 bits with a sign.
-/
import Derived.Test.YtiagkkehemdkpaaRefSums
import Derived.Test.YtiagkkehemdkpaaRefWide
namespace Go.Proofs.Ytiagkkehemdkpaa
open Go.RowKit

set_option maxRecDepth 100000 in
set_option maxHeartbeats 4000000 in
theorem wholes_any (a b : Int) (ha : Whole a) (hb : Whole b) (w : World) :
    Calls Try.prog 4 #[.int .i64 a, .int .i64 b] w fun e w' => e = .returned (.bool true) ∧ Below w.heap.size w w' := by
  have hX := absI_word ha
  have b0 := Below.refl w.heap.size w
  go_enter Try.func4, Try.ntmps4
  go_wp2_with fail
  refine (plus_any _ _ ha hb _).mono ?_
  rintro e w1 ⟨rfl, rfl⟩
  go_wp2_with fail
  refine (refPlus_any _ _ ha hb _).mono ?_
  rintro e w2 ⟨rfl, c2⟩
  have b2 := onto b0 c2
  clear b0 c2
  go_wp2_with fail
  refine (minus_any _ _ ha hb _).mono ?_
  rintro e w3 ⟨rfl, rfl⟩
  go_wp2_with fail
  refine (refMinus_any _ _ ha hb _).mono ?_
  rintro e w4 ⟨rfl, c4⟩
  have b4 := onto b2 c4
  clear b2 c4
  go_wp2_with fail
  refine (product_any _ _ ha hb _).mono ?_
  rintro e w5 ⟨rfl, c5⟩
  have b5 := onto b4 c5
  clear b4 c5
  go_wp2_with fail
  refine (refTimes64_any _ _ ha hb _).mono ?_
  rintro e w6 ⟨rfl, c6⟩
  have b6 := onto b5 c6
  clear b5 c6
  go_wp2_with fail
  refine (floor_any _ _ ha _).mono ?_
  rintro e w7 ⟨rfl, rfl⟩
  go_wp2_with fail
  refine (refFloor_any _ _ ha _).mono ?_
  rintro e w8 ⟨rfl, rfl⟩
  go_wp2_with fail
  refine (fixed_any _).mono ?_
  rintro e w9 ⟨rfl, c9⟩
  have b9 := onto b6 c9
  clear b6 c9
  go_wp2_with fail
  refine (square_any _ ha _).mono ?_
  rintro e w10 ⟨rfl, c10⟩
  have b10 := onto b9 c10
  clear b9 c10
  go_wp2_with fail
  refine (refSize_any _ ha _).mono ?_
  rintro e w11 ⟨rfl, rfl⟩
  go_wp2_with fail
  refine (refSize_any _ ha _).mono ?_
  rintro e w12 ⟨rfl, rfl⟩
  go_wp2_with fail
  refine (refMul_any _ _ hX hX _).mono ?_
  rintro e w13 ⟨rfl, c13⟩
  have b13 := onto b10 c13
  clear b10 c13
  go_wp2_with fail
  go_ret
  exact ⟨rfl, b13⟩
end Go.Proofs.Ytiagkkehemdkpaa
