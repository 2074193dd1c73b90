/-
  ConfigEnds' walk: of a config that may be, each field may be as little, and as much, as it may, and no less, and no more. No condition.
-/
import Derived.Test.YtbmbgfmhejahjaaCFix
namespace Go.Proofs.Ytbmbgfmhejahjaa
open Go.RowKit

theorem st_ok {n lo hi ab r : Int} (hab : ab ≠ 0) (h : st n lo hi ab r = 0) : lo ≤ n ∧ n ≤ hi ∧ r = 0 := by
  unfold st at h
  split at h
  · omega
  · split at h
    · exact absurd h hab
    · exact ⟨by omega, by omega, h⟩
theorem chk_ok {k c b t d l p : Int} (h : chk k c b t d l p = 0) : (k = 0 ∧ 2 ≤ c ∧ c ≤ 256 ∨ k = 1 ∧ c = 0) ∧ 2 ≤ b ∧ b ≤ 256 ∧ 1 ≤ t ∧ t ≤ 4096 ∧ 0 ≤ d ∧ d ≤ 32 ∧ 1 ≤ l ∧ l ≤ 1048576 ∧ 1 ≤ p ∧ p ≤ 1024 := by
  unfold chk at h
  obtain ⟨a1, a2, h⟩ := st_ok (by decide) h
  obtain ⟨b1, b2, h⟩ := st_ok (by unfold cAb; split <;> decide) h
  obtain ⟨c1, c2, h⟩ := st_ok (by decide) h
  obtain ⟨d1, d2, h⟩ := st_ok (by decide) h
  obtain ⟨e1, e2, h⟩ := st_ok (by decide) h
  obtain ⟨f1, f2, h⟩ := st_ok (by decide) h
  obtain ⟨g1, g2, h⟩ := st_ok (by decide) h
  refine ⟨?_, c1, c2, d1, d2, e1, e2, f1, f2, g1, g2⟩
  unfold cLo cHi at *
  by_cases h1 : k = 1
  · rw [if_pos h1] at b1 b2
    omega
  · rw [if_neg h1] at b1 b2
    omega

/-- The two rows of ends, as they are laid. -/
def lowsW (w : World) : World := (w.alloc (.cells #[.int .i64 2, .int .i64 1, .int .i64 0, .int .i64 1, .int .i64 1] 3)).alloc (.cells #[.int .i64 256, .int .i64 4096, .int .i64 32, .int .i64 1048576, .int .i64 1024] 3)
/-- Five numbers lie in a block. -/
def Five (N : Nat) (x0 x1 x2 x3 x4 : Int) (w : World) : Prop := N < w.heap.size ∧ w.cell? ⟨N, 0, none⟩ = some (.int .i64 x0) ∧ w.cell? ⟨N, 1, none⟩ = some (.int .i64 x1) ∧ w.cell? ⟨N, 2, none⟩ = some (.int .i64 x2) ∧ w.cell? ⟨N, 3, none⟩ = some (.int .i64 x3) ∧ w.cell? ⟨N, 4, none⟩ = some (.int .i64 x4)
theorem Five.below {N B : Nat} {x0 x1 x2 x3 x4 : Int} {w w' : World} (h : Five N x0 x1 x2 x3 x4 w) (b : Below B w w') (hB : N < B) : Five N x0 x1 x2 x3 x4 w' :=
  ⟨Nat.lt_of_lt_of_le h.1 b.size, (b.cell (by exact hB)).trans h.2.1, (b.cell (by exact hB)).trans h.2.2.1, (b.cell (by exact hB)).trans h.2.2.2.1, (b.cell (by exact hB)).trans h.2.2.2.2.1, (b.cell (by exact hB)).trans h.2.2.2.2.2⟩
theorem lows_of (w : World) : Five w.heap.size 2 1 0 1 1 (lowsW w) ∧ Five (w.heap.size + 1) 256 4096 32 1048576 1024 (lowsW w) ∧ Below w.heap.size w (lowsW w) := by
  refine ⟨⟨by simp [lowsW]; omega, ?_, ?_, ?_, ?_, ?_⟩, ⟨by simp [lowsW], ?_, ?_, ?_, ?_, ?_⟩, ((Below.refl _ w).alloc (Nat.le_refl _) _).alloc (by simp) _⟩ <;> simp [lowsW, go_sem]

end Go.Proofs.Ytbmbgfmhejahjaa
