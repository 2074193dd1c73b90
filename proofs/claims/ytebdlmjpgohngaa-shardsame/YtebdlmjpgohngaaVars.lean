/-
  VARIABLES THAT HOLD WIDE AND LONG NUMBERS, each in a block of its own: they stay as they are where nothing below turns. No condition.
-/
import Derived.Test.YtebdlmjpgohngaaLong
namespace Go.Proofs.Ytebdlmjpgohngaa
open Go.RowKit

/-- A variable that holds a long number. -/
structure At3 (b : Nat) (x y z : Int) (w : World) : Prop where
  lt : b < w.heap.size
  c0 : w.cell? ⟨b, 0, none⟩ = some (.int .u64 x)
  c1 : w.cell? ⟨b, 1, none⟩ = some (.int .u64 y)
  c2 : w.cell? ⟨b, 2, none⟩ = some (.int .u64 z)
theorem At3.below {b : Nat} {x y z : Int} {w w' : World} (h : At3 b x y z w) (hb : Below w.heap.size w w') : At3 b x y z w' :=
  ⟨Nat.lt_of_lt_of_le h.lt hb.size, (hb.cell (by exact h.lt)).trans h.c0, (hb.cell (by exact h.lt)).trans h.c1, (hb.cell (by exact h.lt)).trans h.c2⟩
theorem At3.alloc {b : Nat} {x y z : Int} {w : World} (h : At3 b x y z w) (o : Obj) : At3 b x y z (w.alloc o) := h.below (alloc_below w o)
/-- A variable that holds a wide number. -/
structure At2 (b : Nat) (x y : Int) (w : World) : Prop where
  lt : b < w.heap.size
  c0 : w.cell? ⟨b, 0, none⟩ = some (.int .u64 x)
  c1 : w.cell? ⟨b, 1, none⟩ = some (.int .u64 y)
theorem At2.below {b : Nat} {x y : Int} {w w' : World} (h : At2 b x y w) (hb : Below w.heap.size w w') : At2 b x y w' :=
  ⟨Nat.lt_of_lt_of_le h.lt hb.size, (hb.cell (by exact h.lt)).trans h.c0, (hb.cell (by exact h.lt)).trans h.c1⟩
theorem At2.alloc {b : Nat} {x y : Int} {w : World} (h : At2 b x y w) (o : Obj) : At2 b x y (w.alloc o) := h.below (alloc_below w o)
theorem At2.new (w : World) (x y : Int) : At2 w.heap.size x y (w.alloc (.cells #[.int .u64 x, .int .u64 y] 113)) := ⟨by simp, by simp, by simp⟩

theorem onto {w0 w w' : World} (h : Below w0.heap.size w0 w) (k : Below w.heap.size w w') : Below w0.heap.size w0 w' := h.trans (k.mono h.size)
theorem more {w0 w : World} (h : Below w0.heap.size w0 w) (o : Obj) : Below w0.heap.size w0 (w.alloc o) := h.alloc h.size o
end Go.Proofs.Ytebdlmjpgohngaa
