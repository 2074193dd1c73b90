/-
  The chapter's examples, as each statement asks them. No condition.
-/
import Derived.Test.YtbmbgfmhejahjaaCPut
namespace Go.Proofs.Ytbmbgfmhejahjaa
open Go.RowKit

/-- The three configs of the examples, as they are laid. -/
def fixW (w : World) (x y : Int) : World := (((w.alloc (.cells #[.int .i64 0, .int .i64 2, .int .i64 2, .int .i64 1, .int .i64 0, .int .i64 1, .int .i64 1] 23)).alloc (.cells #[.int .i64 0, .int .i64 x, .int .i64 2, .int .i64 1, .int .i64 0, .int .i64 1, .int .i64 1] 23)).alloc (.cells #[.int .i64 0, .int .i64 y, .int .i64 2, .int .i64 1, .int .i64 0, .int .i64 1, .int .i64 1] 23)).drew
theorem fixW_facts (w : World) (x y : Int) : Seven w.heap.size (nf 0 2 2 1 0 1 1) (fixW w x y) ∧ Seven (w.heap.size + 1) (nf 0 x 2 1 0 1 1) (fixW w x y) ∧ Seven (w.heap.size + 1 + 1) (nf 0 y 2 1 0 1 1) (fixW w x y) ∧ Below w.heap.size w (fixW w x y) := by
  have q0 := Seven.new 0 2 2 1 0 1 1 w 23
  have b0 := (Below.refl w.heap.size w).alloc (Nat.le_refl _) (.cells #[.int .i64 0, .int .i64 2, .int .i64 2, .int .i64 1, .int .i64 0, .int .i64 1, .int .i64 1] 23)
  have s0 : (w.alloc (.cells #[.int .i64 0, .int .i64 2, .int .i64 2, .int .i64 1, .int .i64 0, .int .i64 1, .int .i64 1] 23)).heap.size = w.heap.size + 1 := by simp
  unfold fixW
  generalize w.alloc (.cells #[.int .i64 0, .int .i64 2, .int .i64 2, .int .i64 1, .int .i64 0, .int .i64 1, .int .i64 1] 23) = w0 at *
  have q1 := Seven.new 0 x 2 1 0 1 1 w0 23
  have b1 := (Below.refl w0.heap.size w0).alloc (Nat.le_refl _) (.cells #[.int .i64 0, .int .i64 x, .int .i64 2, .int .i64 1, .int .i64 0, .int .i64 1, .int .i64 1] 23)
  have s1 : (w0.alloc (.cells #[.int .i64 0, .int .i64 x, .int .i64 2, .int .i64 1, .int .i64 0, .int .i64 1, .int .i64 1] 23)).heap.size = w0.heap.size + 1 := by simp
  generalize w0.alloc (.cells #[.int .i64 0, .int .i64 x, .int .i64 2, .int .i64 1, .int .i64 0, .int .i64 1, .int .i64 1] 23) = w1 at *
  have q2 := Seven.new 0 y 2 1 0 1 1 w1 23
  have b2 := ((Below.refl w1.heap.size w1).alloc (Nat.le_refl _) (.cells #[.int .i64 0, .int .i64 y, .int .i64 2, .int .i64 1, .int .i64 0, .int .i64 1, .int .i64 1] 23))
  rw [s0] at q1
  rw [s1, s0] at q2
  have l0 : w.heap.size < w1.heap.size := by omega
  have l1 : w.heap.size + 1 < w1.heap.size := by omega
  have r0 := (q0.below b1 q0.1).below b2 l0
  have r1 := q1.below b2 l1
  refine ⟨r0, r1, q2, ?_⟩
  exact ((b0.trans (b1.mono (by omega))).trans (b2.mono (by omega))).drew

end Go.Proofs.Ytbmbgfmhejahjaa
