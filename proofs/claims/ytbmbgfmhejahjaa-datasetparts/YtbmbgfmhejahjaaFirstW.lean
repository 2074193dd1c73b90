/-
  ConfigFirst's walk: where several fields are wrong, what is told is what the first one of them tells alone. No condition.
-/
import Derived.Test.YtbmbgfmhejahjaaFirstN
namespace Go.Proofs.Ytbmbgfmhejahjaa
open Go.RowKit

/-- Two configs, as they are laid. -/
def twoW (w : World) (k c b t d l p k' c' b' t' d' l' p' : Int) : World := (w.alloc (.cells #[.int .i64 k, .int .i64 c, .int .i64 b, .int .i64 t, .int .i64 d, .int .i64 l, .int .i64 p] 23)).alloc (.cells #[.int .i64 k', .int .i64 c', .int .i64 b', .int .i64 t', .int .i64 d', .int .i64 l', .int .i64 p'] 23)
theorem twoW_facts (w : World) (k c b t d l p k' c' b' t' d' l' p' : Int) : Seven w.heap.size (nf k c b t d l p) (twoW w k c b t d l p k' c' b' t' d' l' p') ∧ Seven (w.heap.size + 1) (nf k' c' b' t' d' l' p') (twoW w k c b t d l p k' c' b' t' d' l' p') ∧ Below w.heap.size w (twoW w k c b t d l p k' c' b' t' d' l' p') := by
  have q0 := Seven.new k c b t d l p w 23
  have b0 := (Below.refl w.heap.size w).alloc (Nat.le_refl _) (.cells #[.int .i64 k, .int .i64 c, .int .i64 b, .int .i64 t, .int .i64 d, .int .i64 l, .int .i64 p] 23)
  have s0 : (w.alloc (.cells #[.int .i64 k, .int .i64 c, .int .i64 b, .int .i64 t, .int .i64 d, .int .i64 l, .int .i64 p] 23)).heap.size = w.heap.size + 1 := by simp
  unfold twoW
  generalize w.alloc (.cells #[.int .i64 k, .int .i64 c, .int .i64 b, .int .i64 t, .int .i64 d, .int .i64 l, .int .i64 p] 23) = w0 at *
  have q1 := Seven.new k' c' b' t' d' l' p' w0 23
  have b1 := (Below.refl w0.heap.size w0).alloc (Nat.le_refl _) (.cells #[.int .i64 k', .int .i64 c', .int .i64 b', .int .i64 t', .int .i64 d', .int .i64 l', .int .i64 p'] 23)
  rw [s0] at q1
  exact ⟨q0.below b1 q0.1, q1, b0.trans (b1.mono (by omega))⟩

/-- Seven numbers lie in a block, and may be written. -/
def SevW (N : Nat) (f : Nat → Int) (w : World) : Prop := N < w.heap.size ∧ (∀ j, j < 7 → w.cell? ⟨N, j, none⟩ = some (.int .i64 (f j))) ∧ ∀ j, j < 7 → w.frozen? ⟨N, j, none⟩ = false
theorem SevW.below {N B : Nat} {f : Nat → Int} {w w' : World} (h : SevW N f w) (b : Below B w w') (hB : N < B) : SevW N f w' :=
  ⟨Nat.lt_of_lt_of_le h.1 b.size, fun j hj => (b.cell (by exact hB)).trans (h.2.1 j hj), fun j hj => (b.frozen (by exact hB)).trans (h.2.2 j hj)⟩
theorem SevW.sev {N : Nat} {f : Nat → Int} {w : World} (h : SevW N f w) : Seven N f w := ⟨h.1, h.2.1⟩
theorem SevW.new (k c b t d l p : Int) (w : World) (ty : TypeId) : SevW w.heap.size (nf k c b t d l p) (w.alloc (.cells #[.int .i64 k, .int .i64 c, .int .i64 b, .int .i64 t, .int .i64 d, .int .i64 l, .int .i64 p] ty)) :=
  ⟨by simp, (Seven.new k c b t d l p w ty).2, fun j hj => by simp [go_sem]⟩
theorem SevW.set {N : Nat} {f g : Nat → Int} {w : World} (h : SevW N f w) (j : Nat) (hj : j < 7) (x : Int) (hg : ∀ t, g t = if t = j then x else f t) : SevW N g (w.setCell ⟨N, j, none⟩ (.int .i64 x)) := by
  refine ⟨by simpa [World.setCell] using h.1, fun t ht => ?_, fun t ht => by rw [World.frozen?_setCell]; exact h.2.2 t ht⟩
  rw [hg t]
  by_cases e : t = j
  · subst e
    rw [if_pos rfl]
    exact World.cell?_setCell_same _ _ _ (h.2.1 t ht)
  · rw [if_neg e, World.cell?_setCell_other _ _ _ _ (by simp)]
    exact h.2.1 t ht
theorem mx_step (i : Nat) (f g : Nat → Int) (j : Nat) : (j ≤ i → ∀ t, mx i (j + 1) f g t = if t = j then f j else mx i j f g t) ∧ (¬ j ≤ i → mx i (j + 1) f g = mx i j f g) := by
  constructor
  · intro h t
    unfold mx
    by_cases e : t = j
    · subst e
      rw [if_pos ⟨by omega, h⟩, if_pos rfl]
    · rw [if_neg e]
      by_cases e2 : t < j ∧ t ≤ i
      · rw [if_pos e2, if_pos ⟨by omega, e2.2⟩]
      · rw [if_neg e2, if_neg (by omega)]
  · intro h
    funext t
    unfold mx
    by_cases e2 : t < j ∧ t ≤ i
    · rw [if_pos e2, if_pos ⟨by omega, e2.2⟩]
    · rw [if_neg e2, if_neg (by omega)]

end Go.Proofs.Ytbmbgfmhejahjaa
