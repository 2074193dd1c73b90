/-
  The law's own check of the chapter's examples answers true, and turns no memory that was there. Condition: the package's table of rounds reads as its text lays it.
-/
import Derived.Test.YthaiijnoefoadaaDoorMix
namespace Go.Proofs.YthaiijnoefoadaaDoor
open Go.RowKit

set_option maxHeartbeats 400000 in
theorem fixed_any (t : TypeId) (fr : Nat × Nat) (w : World) (hg : w.heap[0]? = some (.cells cs9 t fr)) :
    Calls Tryd.prog 7 #[] w fun e w' => e = .returned (.bool true) ∧ Below w.heap.size w w' := by
  have h0 : 0 < w.heap.size := (Array.getElem?_eq_some_iff.1 hg).1
  have m0 : (mixI 0 == 16294208416658607535) = true := by rw [mixI_0]; rfl
  have mc : (mixI 11400714819323198485 == 7960286522194355700) = true := by rw [mixI_c]; rfl
  have HG := Lib.hid hg; clear hg
  go_enter Tryd.func7, Tryd.ntmps7
  go_wp2_with fail
  refine (mix_any 0 t fr _ HG.out).mono ?_
  rintro e w1 ⟨rfl, b1⟩
  go_wp2_with fail
  refine (mix_any 11400714819323198485 t fr _ (laid_below HG.out h0 b1)).mono ?_
  rintro e w2 ⟨rfl, b2⟩
  go_wp2_with fail
  go_ret
  exact ⟨rfl, b1.trans (b2.mono b1.size)⟩

set_option maxHeartbeats 400000 in
theorem mixBack_any (x : Int) (h0 : 0 ≤ x) (h1 : x < 18446744073709551616) (t : TypeId) (fr : Nat × Nat) (w : World) (hg : w.heap[0]? = some (.cells cs9 t fr)) :
    Calls Tryd.prog 4 #[.int .u64 x] w fun e w' => e = .returned (.bool true) ∧ Below w.heap.size w w' := by
  have hz : 0 < w.heap.size := (Array.getElem?_eq_some_iff.1 hg).1
  have m0 : (backI (mixI x) == x) = true := by rw [backI_mixI x h0 h1]; simp
  have mc : (mixI (backI x) == x) = true := by rw [mixI_backI x h0 h1]; simp
  clear h0 h1
  have HG := Lib.hid hg; clear hg
  go_enter Tryd.func4, Tryd.ntmps4
  go_wp2_with fail
  refine (fixed_any t fr _ HG.out).mono ?_
  rintro e w1 ⟨rfl, b1⟩
  go_wp2_with fail
  refine (mix_any x t fr _ (laid_below HG.out hz b1)).mono ?_
  rintro e w2 ⟨rfl, b2'⟩
  have b2 := b1.trans (b2'.mono b1.size)
  go_wp2_with fail
  refine (back_any _ t fr _ (laid_below HG.out hz b2)).mono ?_
  rintro e w3 ⟨rfl, b3'⟩
  have b3 := b2.trans (b3'.mono b2.size)
  go_wp2_with fail
  refine (back_any _ t fr _ (laid_below HG.out hz b3)).mono ?_
  rintro e w4 ⟨rfl, b4'⟩
  have b4 := b3.trans (b4'.mono b3.size)
  go_wp2_with fail
  refine (mix_any _ t fr _ (laid_below HG.out hz b4)).mono ?_
  rintro e w5 ⟨rfl, b5'⟩
  have b5 := b4.trans (b5'.mono b4.size)
  go_wp2_with fail
  go_ret
  exact ⟨rfl, b5⟩
end Go.Proofs.YthaiijnoefoadaaDoor
