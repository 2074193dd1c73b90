/-
  THE LIBRARY's SORT AT NUMBERS OF 64 BITS, ITS GROUND: a block that holds an array of numbers and may be written; all blocks but one as they were; 'less'. No condition.
-/
import Derived.Test.YtjaogmbeoldefaaCmpU
import Derived.Test.YtjaogmbeoldefaaBut
import Derived.Handy
import Derived.Deep.QuietTactic
import Derived.BigQuiet
import Derived.Deep.RegionHeld3
import Derived.Sort.WalkA
namespace Go.Proofs.Ytjaogmbeoldefaa
open Go.RowKit Go.Sort

/-- An array's element. -/
def el (d : Array Int) (j : Nat) : Int := d[j]!

/-- A block holds this array from a place on, and it may be written. -/
structure Arr (g off : Nat) (d : Array Int) (w : World) : Prop where
  lt : g < w.heap.size
  cell : ∀ j, j < d.size → w.cell? ⟨g, off + j, none⟩ = some (.int .u64 (el d j))
  frozen : ∀ j, j < d.size → w.frozen? ⟨g, off + j, none⟩ = false

theorem Arr.drewN {g off : Nat} {d : Array Int} {w : World} (h : Arr g off d w) (n : Nat) : Arr g off d (w.drewN n) := ⟨h.lt, h.cell, h.frozen⟩
theorem Arr.drew {g off : Nat} {d : Array Int} {w : World} (h : Arr g off d w) : Arr g off d w.drew := ⟨h.lt, h.cell, h.frozen⟩
theorem Arr.below {g off B : Nat} {d : Array Int} {w w' : World} (h : Arr g off d w) (hb : Go.RowKit.Below B w w') (hB : g < B) : Arr g off d w' :=
  ⟨Nat.lt_of_lt_of_le h.lt hb.size, fun j hj => (hb.cell (by exact hB)).trans (h.cell j hj), fun j hj => (hb.frozen (by exact hB)).trans (h.frozen j hj)⟩
theorem Arr.but {g off b : Nat} {d : Array Int} {w w' : World} (h : Arr g off d w) (hb : But b w w') (hn : g ≠ b) : Arr g off d w' :=
  ⟨Nat.lt_of_lt_of_le h.lt hb.size, fun j hj => (hb.cell (by exact h.lt) (by exact hn)).trans (h.cell j hj), fun j hj => (hb.frozen (by exact h.lt) (by exact hn)).trans (h.frozen j hj)⟩
theorem Arr.set {g off : Nat} {d : Array Int} {w : World} (h : Arr g off d w) (i : Nat) (x : Int) (hi : i < d.size) : Arr g off (d.setIfInBounds i x) (w.setCell ⟨g, off + i, none⟩ (.int .u64 x)) := by
  refine ⟨by have := h.lt; simp [World.setCell]; omega, fun j hj => ?_, fun j hj => ?_⟩
  · simp at hj
    unfold el
    by_cases e : i = j
    · subst e
      rw [World.cell?_setCell_same _ _ _ (h.cell i hi), getElem!_set_same d i x hi]
    · rw [World.cell?_setCell_other _ _ _ _ (by simp), h.cell j hj, getElem!_set_other d i j x (Ne.symm e)]
      rfl
  · simp at hj
    rw [World.frozen?_setCell]; exact h.frozen j hj
theorem Arr.swap {g off : Nat} {d : Array Int} {w : World} (h : Arr g off d w) (i j : Nat) (hi : i < d.size) (hj : j < d.size) :
    Arr g off (swp d i j) ((w.setCell ⟨g, off + i, none⟩ (.int .u64 (el d j))).setCell ⟨g, off + j, none⟩ (.int .u64 (el d i))) :=
  (h.set i (el d j) hi).set j (el d i) (by simpa using hj)
theorem But.swap (g i j : Nat) (w : World) (u v : Value) : But g w ((w.setCell ⟨g, i, none⟩ u).setCell ⟨g, j, none⟩ v) := (But.setCell g i w u).trans (But.setCell g j _ v)

theorem less_any (x y : Int) (w : World) : Calls Try.prog 69 #[.int .u64 x, .int .u64 y] w fun e w' => e = .returned (.bool (ltInt x y)) ∧ w = w' := by
  go_enter Try.func69, Try.ntmps69
  go_wp2_with (go_at_call 81; refine (nan_any _ _).mono ?_; rintro e w' ⟨rfl, rfl⟩)
  go_ret
  exact ⟨by simp [ltInt], rfl⟩
theorem less_same (x y : Int) (w : World) : Calls Try.prog 69 #[.int .u64 x, .int .u64 y] w fun e w' => e = .returned (.bool (ltInt x y)) ∧ w' = w :=
  (less_any x y w).mono fun _ _ h => ⟨h.1, h.2.symm⟩

end Go.Proofs.Ytjaogmbeoldefaa
