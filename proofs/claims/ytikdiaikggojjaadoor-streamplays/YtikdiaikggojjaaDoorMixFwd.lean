/-
  THE CALLS OF mix: Mix of x answers the mix of x, and turns no memory that was there. Conditions: the package's table of rounds reads as its text lays it.
-/
import Derived.Test.YtikdiaikggojjaaDoorRows
import Derived.WalkKit
import Derived.WalkSpells
import Derived.WalkLawsBesides
import Derived.Lib.Hide
import Derived.Test.YtikdiaikggojjaaDoorNum
namespace Go.Proofs.YtikdiaikggojjaaDoor
open Go.RowKit

def cs9 : Array Value := #[.int .u64 30, .int .u64 13787848793156543929, .int .u64 10871156337175269513, .int .u64 27, .int .u64 10723151780598845931, .int .u64 3573116690164977347, .int .u64 31, .int .u64 1, .int .u64 1]


/-- What a step leaves: the captured cell holds the new number, nothing below its block has turned. -/
structure Stepped (b : Nat) (z : Int) (w w' : World) : Prop where
  below : Below b w w'
  cell : w'.cell? ⟨b, 0, none⟩ = some (.int .u64 z)
  frozen : w'.frozen? ⟨b, 0, none⟩ = false

theorem stepped_mk (b : Nat) (z z' : Int) (w : World) (o : Obj) (hb : b < w.heap.size) (hc : w.cell? ⟨b, 0, none⟩ = some (.int .u64 z)) (hf : w.frozen? ⟨b, 0, none⟩ = false) :
    Stepped b z' w ((w.setCell ⟨b, 0, none⟩ (.int .u64 z')).alloc o) := by
  refine ⟨((Below.refl b w).setCell (p := ⟨b, 0, none⟩) (Nat.le_refl _) _).alloc (by simp; omega) _, ?_, ?_⟩
  · rw [World.cell?_alloc_past _ _ _ (by simp [World.setCell]; omega)]
    exact World.cell?_setCell_same _ _ _ hc
  · rw [World.frozen?_alloc_past _ _ _ (by simp [World.setCell]; omega), World.frozen?_setCell]
    exact hf

set_option maxHeartbeats 400000 in
theorem step_any (s d f u z : Int) (hs : (s = 30 ∧ d = 1073741824) ∨ (s = 27 ∧ d = 134217728) ∨ (s = 31 ∧ d = 2147483648)) (b : Nat) (w : World) (hb : b < w.heap.size) (hc : w.cell? ⟨b, 0, none⟩ = some (.int .u64 z)) (hf : w.frozen? ⟨b, 0, none⟩ = false) :
    Calls Tryd.prog 20 #[.agg #[.int .u64 s, .int .u64 f, .int .u64 u], .pointer (some ⟨b, 0, none⟩)] w fun e w' => e = .returned (.tuple #[]) ∧ Stepped b (st d f z) w w' := by
  rcases hs with ⟨rfl, rfl⟩ | ⟨rfl, rfl⟩ | ⟨rfl, rfl⟩
  all_goals
    have hk := stepped_mk b z
    go_enter Tryd.func20, Tryd.ntmps20
    go_wp2
    go_end0
    exact ⟨rfl, hk _ _ _ hb hc hf⟩

theorem i0 (w : World) : (Instr.index 54 (.agg cs9) (.int .i64 0)).run Tryd.prog w = .ok (.agg #[.int .u64 30, .int .u64 13787848793156543929, .int .u64 10871156337175269513]) w := by kernel_rfl
theorem i1 (w : World) : (Instr.index 54 (.agg cs9) (.int .i64 1)).run Tryd.prog w = .ok (.agg #[.int .u64 27, .int .u64 10723151780598845931, .int .u64 3573116690164977347]) w := by kernel_rfl
theorem i2 (w : World) : (Instr.index 54 (.agg cs9) (.int .i64 2)).run Tryd.prog w = .ok (.agg #[.int .u64 31, .int .u64 1, .int .u64 1]) w := by kernel_rfl

/-- A step's world, with a block more ahead of it. -/
theorem Stepped.past {b : Nat} {z' : Int} {w w' : World} {o : Obj} (hb : b < w.heap.size) (h : Stepped b z' (w.alloc o) w') : Below b w w' :=
  ((Below.refl b w).alloc (by omega) o).trans h.below


set_option maxHeartbeats 1000000 in
theorem first_any (z : Int) (b : Nat) (t : TypeId) (fr : Nat × Nat) (w : World) (hg : w.heap[0]? = some (.cells cs9 t fr)) (hb : b < w.heap.size) (hc : w.cell? ⟨b, 0, none⟩ = some (.int .u64 z)) (hf : w.frozen? ⟨b, 0, none⟩ = false) :
    Calls Tryd.prog 19 #[.func (.func 20) #[] #[.pointer (some ⟨b, 0, none⟩)]] w fun e w' => e = .returned (.tuple #[]) ∧ Stepped b (mix3 z) w w' := by
  have i0 := i0
  have i1 := i1
  have i2 := i2
  go_enter Tryd.func19, Tryd.ntmps19
  go_wp2_with (refine wpList_load_row rfl 54 _ rfl 0 rfl t _ fr _ hg Tryd.underlying54 rfl (by kernel_rfl) ?_)
  clear hg
  refine wp_loop_rounds 4 ?_
  rw [rounds_succ]
  go_wp2_with fail
  refine (step_any 30 1073741824 _ _ z (Or.inl ⟨rfl, rfl⟩) b _ (by simp; omega) (by rw [World.cell?_alloc_past _ _ _ hb]; exact hc) (by rw [World.frozen?_alloc_past _ _ _ hb]; exact hf)).mono ?_
  rintro e w1 ⟨rfl, h1⟩
  have b1 := h1.past hb
  have c1 := h1.cell
  have f1 := h1.frozen
  have s1 : b < w1.heap.size := Nat.lt_of_lt_of_le hb b1.size
  clear h1
  go_wp2_with fail
  rw [rounds_succ]
  go_wp2_with fail
  refine (step_any 27 134217728 _ _ _ (Or.inr (Or.inl ⟨rfl, rfl⟩)) b _ (by simp; omega) (by rw [World.cell?_alloc_past _ _ _ s1]; exact c1) (by rw [World.frozen?_alloc_past _ _ _ s1]; exact f1)).mono ?_
  rintro e w2 ⟨rfl, h2⟩
  have b2 := h2.past s1
  have c2 := h2.cell
  have f2 := h2.frozen
  have s2 : b < w2.heap.size := Nat.lt_of_lt_of_le s1 b2.size
  clear h2
  go_wp2_with fail
  rw [rounds_succ]
  go_wp2_with fail
  refine (step_any 31 2147483648 _ _ _ (Or.inr (Or.inr ⟨rfl, rfl⟩)) b _ (by simp; omega) (by rw [World.cell?_alloc_past _ _ _ s2]; exact c2) (by rw [World.frozen?_alloc_past _ _ _ s2]; exact f2)).mono ?_
  rintro e w3 ⟨rfl, h3⟩
  have b3 := h3.past s2
  have c3 := h3.cell
  have f3 := h3.frozen
  clear h3
  go_wp2_with fail
  rw [rounds_succ]
  go_wp2_with fail
  go_end0
  exact ⟨rfl, (b1.trans b2).trans b3, c3, f3⟩

theorem laid_cell {w : World} {t : TypeId} {fr : Nat × Nat} (hg : w.heap[0]? = some (.cells cs9 t fr)) (i : Nat) : w.cell? ⟨0, i, none⟩ = cs9[i]? := by
  simp [World.cell?, hg]
theorem laid_cells {w : World} {t : TypeId} {fr : Nat × Nat} (hg : w.heap[0]? = some (.cells cs9 t fr)) :
    (w.cell? ⟨0, 0, none⟩ = some (.int .u64 30) ∧ w.cell? ⟨0, 1, none⟩ = some (.int .u64 13787848793156543929) ∧ w.cell? ⟨0, 2, none⟩ = some (.int .u64 10871156337175269513)) ∧
    (w.cell? ⟨0, 3, none⟩ = some (.int .u64 27) ∧ w.cell? ⟨0, 4, none⟩ = some (.int .u64 10723151780598845931) ∧ w.cell? ⟨0, 5, none⟩ = some (.int .u64 3573116690164977347)) ∧
    (w.cell? ⟨0, 6, none⟩ = some (.int .u64 31) ∧ w.cell? ⟨0, 7, none⟩ = some (.int .u64 1) ∧ w.cell? ⟨0, 8, none⟩ = some (.int .u64 1)) :=
  ⟨⟨laid_cell hg 0, laid_cell hg 1, laid_cell hg 2⟩, ⟨laid_cell hg 3, laid_cell hg 4, laid_cell hg 5⟩, ⟨laid_cell hg 6, laid_cell hg 7, laid_cell hg 8⟩⟩
theorem laid_below {B : Nat} {w w' : World} {t : TypeId} {fr : Nat × Nat} (hg : w.heap[0]? = some (.cells cs9 t fr)) (hB : 0 < B) (h : Below B w w') : w'.heap[0]? = some (.cells cs9 t fr) :=
  (h.block 0 hB).trans hg


set_option maxHeartbeats 400000 in
theorem mix_any (x : Int) (t : TypeId) (fr : Nat × Nat) (w : World) (hg : w.heap[0]? = some (.cells cs9 t fr)) :
    Calls Tryd.prog 16 #[.int .u64 x] w fun e w' => e = .returned (.int .u64 (mixI x)) ∧ Below w.heap.size w w' := by
  have hmf : ∀ (fn : Fn) (first cap : Array Value) (w : World), (Instr.makeFunc fn first cap).run Tryd.prog w = .ok (.func fn first cap) w := fun _ _ _ _ => rfl
  have h0 : 0 < w.heap.size := (Array.getElem?_eq_some_iff.1 hg).1
  have HG := Lib.hid hg; clear hg
  go_enter Tryd.func16, Tryd.ntmps16
  go_wp2_with fail
  refine (first_any _ w.heap.size t fr _ ((Below.heap_alloc _ _ _ h0).trans HG.out) (by simp) (by simp; rfl) (by simp)).mono ?_
  rintro e w1 ⟨rfl, h1⟩
  have b1 : Below w.heap.size w w1 := ((Below.refl _ w).alloc (Nat.le_refl _) _).trans h1.below
  have c1 := h1.cell
  clear h1
  go_wp2_with fail
  go_ret
  exact ⟨rfl, b1⟩

end Go.Proofs.YtikdiaikggojjaaDoor
