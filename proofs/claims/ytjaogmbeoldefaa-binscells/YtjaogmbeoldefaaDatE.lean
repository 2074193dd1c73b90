/-
  DATASETS AS VALUES: eleven cells: the config's seven, rows, columns, values and targets; a block that holds them. No condition.
-/
import Derived.Test.YtjaogmbeoldefaaOwnE
namespace Go.Proofs.Ytjaogmbeoldefaa
open Go.RowKit

/-- Whole numbers of 64 bits. -/
def K64 : Kind Int := ⟨25, 2, .int .i64, 0, 8⟩
theorem ok64 : K64.Ok := ⟨Try.underlying25, by kernel_rfl, by decide, fun _ => rfl, rfl⟩

/-- A dataset as a value. -/
def ds (k c b t d l p r q : Int) (V T : Value) : Value := .agg #[.int .i64 k, .int .i64 c, .int .i64 b, .int .i64 t, .int .i64 d, .int .i64 l, .int .i64 p, .int .i64 r, .int .i64 q, V, T]
/-- Its cells. -/
def dv (k c b t d l p r q : Int) (V T : Value) : Nat → Value
  | 0 => .int .i64 k | 1 => .int .i64 c | 2 => .int .i64 b | 3 => .int .i64 t | 4 => .int .i64 d | 5 => .int .i64 l | 6 => .int .i64 p | 7 => .int .i64 r | 8 => .int .i64 q | 9 => V | _ => T
/-- A block that holds eleven cells, which may be written. -/
structure Dat (N : Nat) (f : Nat → Value) (w : World) : Prop where
  lt : N < w.heap.size
  c : ∀ j, j < 11 → w.cell? ⟨N, j, none⟩ = some (f j)
  fr : ∀ j, j < 11 → w.frozen? ⟨N, j, none⟩ = false
theorem Dat.below {N B : Nat} {f : Nat → Value} {w w' : World} (h : Dat N f w) (b : Below B w w') (hB : N < B) : Dat N f w' :=
  ⟨Nat.lt_of_lt_of_le h.lt b.size, fun j hj => (b.cell hB).trans (h.c j hj), fun j hj => (b.frozen hB).trans (h.fr j hj)⟩
theorem Dat.but {N b : Nat} {f : Nat → Value} {w w' : World} (h : Dat N f w) (hb : But b w w') (hn : N ≠ b) : Dat N f w' :=
  ⟨Nat.lt_of_lt_of_le h.lt hb.size, fun j hj => (hb.cell h.lt hn).trans (h.c j hj), fun j hj => (hb.frozen h.lt hn).trans (h.fr j hj)⟩
theorem Dat.drew {N : Nat} {f : Nat → Value} {w : World} (h : Dat N f w) : Dat N f w.drew := ⟨h.lt, h.c, h.fr⟩
theorem Dat.drewN {N : Nat} {f : Nat → Value} {w : World} (h : Dat N f w) (n : Nat) : Dat N f (w.drewN n) := ⟨h.lt, h.c, h.fr⟩
theorem Dat.set {N : Nat} {f g : Nat → Value} {w : World} (h : Dat N f w) (j : Nat) (x : Value) (hj : j < 11) (hg : ∀ t, g t = if t = j then x else f t) : Dat N g (w.setCell ⟨N, j, none⟩ x) := by
  refine ⟨by simpa [World.setCell] using h.lt, fun i hi => ?_, fun i hi => by rw [World.frozen?_setCell]; exact h.fr i hi⟩
  rw [hg i]
  by_cases e : i = j
  · subst e
    rw [if_pos rfl, World.cell?_setCell_same _ _ _ (h.c i hi)]
  · rw [if_neg e, World.cell?_setCell_other _ _ _ _ (by simp)]
    exact h.c i hi
/-- A dataset, laid anew. -/
def lay (w : World) (ty : TypeId) (k c b t d l p r q : Int) (V T : Value) : World := w.alloc (.cells #[.int .i64 k, .int .i64 c, .int .i64 b, .int .i64 t, .int .i64 d, .int .i64 l, .int .i64 p, .int .i64 r, .int .i64 q, V, T] ty)
theorem lay_size (w : World) (ty : TypeId) (k c b t d l p r q : Int) (V T : Value) : (lay w ty k c b t d l p r q V T).heap.size = w.heap.size + 1 := by simp [lay]
theorem lay_below (w : World) (ty : TypeId) (k c b t d l p r q : Int) (V T : Value) : Below w.heap.size w (lay w ty k c b t d l p r q V T) := (Below.refl w.heap.size w).alloc (Nat.le_refl _) _
theorem lay_dat (w : World) (ty : TypeId) (k c b t d l p r q : Int) (V T : Value) : Dat w.heap.size (dv k c b t d l p r q V T) (lay w ty k c b t d l p r q V T) := by
  refine ⟨by simp [lay], fun j hj => ?_, fun j hj => by simp [lay, go_sem]⟩
  match j with
  | 0 => simp [lay, go_sem, dv]
  | 1 => simp [lay, go_sem, dv]
  | 2 => simp [lay, go_sem, dv]
  | 3 => simp [lay, go_sem, dv]
  | 4 => simp [lay, go_sem, dv]
  | 5 => simp [lay, go_sem, dv]
  | 6 => simp [lay, go_sem, dv]
  | 7 => simp [lay, go_sem, dv]
  | 8 => simp [lay, go_sem, dv]
  | 9 => simp [lay, go_sem, dv]
  | 10 => simp [lay, go_sem, dv]
  | n + 11 => omega
theorem Dat.cells {N : Nat} {k c b t d l p r q : Int} {V T : Value} {w : World} (h : Dat N (dv k c b t d l p r q V T) w) : w.cell? ⟨N, 0, none⟩ = some (.int .i64 k) ∧ w.cell? ⟨N, 1, none⟩ = some (.int .i64 c) ∧ w.cell? ⟨N, 2, none⟩ = some (.int .i64 b) ∧ w.cell? ⟨N, 3, none⟩ = some (.int .i64 t) ∧ w.cell? ⟨N, 4, none⟩ = some (.int .i64 d) ∧ w.cell? ⟨N, 5, none⟩ = some (.int .i64 l) ∧ w.cell? ⟨N, 6, none⟩ = some (.int .i64 p) ∧ w.cell? ⟨N, 7, none⟩ = some (.int .i64 r) ∧ w.cell? ⟨N, 8, none⟩ = some (.int .i64 q) ∧ w.cell? ⟨N, 9, none⟩ = some V ∧ w.cell? ⟨N, 10, none⟩ = some T :=
  ⟨h.c 0 (by decide), h.c 1 (by decide), h.c 2 (by decide), h.c 3 (by decide), h.c 4 (by decide), h.c 5 (by decide), h.c 6 (by decide), h.c 7 (by decide), h.c 8 (by decide), h.c 9 (by decide), h.c 10 (by decide)⟩
theorem Dat.frs {N : Nat} {f : Nat → Value} {w : World} (h : Dat N f w) : w.frozen? ⟨N, 0, none⟩ = false ∧ w.frozen? ⟨N, 1, none⟩ = false ∧ w.frozen? ⟨N, 2, none⟩ = false ∧ w.frozen? ⟨N, 3, none⟩ = false ∧ w.frozen? ⟨N, 4, none⟩ = false ∧ w.frozen? ⟨N, 5, none⟩ = false ∧ w.frozen? ⟨N, 6, none⟩ = false ∧ w.frozen? ⟨N, 7, none⟩ = false ∧ w.frozen? ⟨N, 8, none⟩ = false ∧ w.frozen? ⟨N, 9, none⟩ = false ∧ w.frozen? ⟨N, 10, none⟩ = false :=
  ⟨h.fr 0 (by decide), h.fr 1 (by decide), h.fr 2 (by decide), h.fr 3 (by decide), h.fr 4 (by decide), h.fr 5 (by decide), h.fr 6 (by decide), h.fr 7 (by decide), h.fr 8 (by decide), h.fr 9 (by decide), h.fr 10 (by decide)⟩
/-- Seven numbers, stored one behind the other. -/
def setW (w : World) (X : Nat) (k c b t d l p : Int) : World := ((((((w.setCell ⟨X, 0, none⟩ (.int .i64 k)).setCell ⟨X, 1, none⟩ (.int .i64 c)).setCell ⟨X, 2, none⟩ (.int .i64 b)).setCell ⟨X, 3, none⟩ (.int .i64 t)).setCell ⟨X, 4, none⟩ (.int .i64 d)).setCell ⟨X, 5, none⟩ (.int .i64 l)).setCell ⟨X, 6, none⟩ (.int .i64 p)
/-- Eleven values, stored one behind the other. -/
def put11 (w : World) (X : Nat) (k c b t d l p r q : Int) (V T : Value) : World := ((((setW w X k c b t d l p).setCell ⟨X, 7, none⟩ (.int .i64 r)).setCell ⟨X, 8, none⟩ (.int .i64 q)).setCell ⟨X, 9, none⟩ V).setCell ⟨X, 10, none⟩ T
/-- One cell turned. -/
def upd (f : Nat → Value) (j : Nat) (x : Value) : Nat → Value := fun t => if t = j then x else f t
theorem put11_facts {w : World} {X : Nat} {f : Nat → Value} (k c b t d l p r q : Int) (V T : Value) (h : Dat X f w) : Dat X (dv k c b t d l p r q V T) (put11 w X k c b t d l p r q V T) ∧ But X w (put11 w X k c b t d l p r q V T) := by
  have h1 := h.set 0 (.int .i64 k) (by decide) (g := upd f 0 (.int .i64 k)) (fun _ => rfl)
  have h2 := h1.set 1 (.int .i64 c) (by decide) (g := upd _ 1 (.int .i64 c)) (fun _ => rfl)
  have h3 := h2.set 2 (.int .i64 b) (by decide) (g := upd _ 2 (.int .i64 b)) (fun _ => rfl)
  have h4 := h3.set 3 (.int .i64 t) (by decide) (g := upd _ 3 (.int .i64 t)) (fun _ => rfl)
  have h5 := h4.set 4 (.int .i64 d) (by decide) (g := upd _ 4 (.int .i64 d)) (fun _ => rfl)
  have h6 := h5.set 5 (.int .i64 l) (by decide) (g := upd _ 5 (.int .i64 l)) (fun _ => rfl)
  have h7 := h6.set 6 (.int .i64 p) (by decide) (g := upd _ 6 (.int .i64 p)) (fun _ => rfl)
  have h8 := h7.set 7 (.int .i64 r) (by decide) (g := upd _ 7 (.int .i64 r)) (fun _ => rfl)
  have h9 := h8.set 8 (.int .i64 q) (by decide) (g := upd _ 8 (.int .i64 q)) (fun _ => rfl)
  have h10 := h9.set 9 V (by decide) (g := upd _ 9 V) (fun _ => rfl)
  have h11 := h10.set 10 T (by decide) (g := upd _ 10 T) (fun _ => rfl)
  refine ⟨⟨h11.lt, fun j hj => (h11.c j hj).trans ?_, h11.fr⟩, ?_⟩
  · match j with
    | 0 => rfl
    | 1 => rfl
    | 2 => rfl
    | 3 => rfl
    | 4 => rfl
    | 5 => rfl
    | 6 => rfl
    | 7 => rfl
    | 8 => rfl
    | 9 => rfl
    | 10 => rfl
    | n + 11 => omega
  · exact ((((((((((But.setCell X 0 w _).trans (But.setCell X 1 _ _)).trans (But.setCell X 2 _ _)).trans (But.setCell X 3 _ _)).trans (But.setCell X 4 _ _)).trans (But.setCell X 5 _ _)).trans (But.setCell X 6 _ _)).trans (But.setCell X 7 _ _)).trans (But.setCell X 8 _ _)).trans (But.setCell X 9 _ _)).trans (But.setCell X 10 _ _)

/-- A slice that leads to these elements. -/
def Sl {α : Type} (K : Kind α) (w : World) (v : Value) (l : List α) : Prop := ∃ a cap, v = .slice a l.length cap ∧ (a = none → cap = 0) ∧ l.length ≤ cap ∧ HoldsE K w a l
theorem Sl.below {α : Type} {K : Kind α} {w w' : World} {v : Value} {l : List α} (h : Sl K w v l) (b : Below w.heap.size w w') : Sl K w' v l := by
  obtain ⟨a, cap, h1, h2, h3, h4⟩ := h
  exact ⟨a, cap, h1, h2, h3, h4.below b⟩
theorem Own.sl {α : Type} {K : Kind α} {w : World} {B : Nat} {v : Value} {l : List α} (h : Own K w B v l) : Sl K w v l := by
  obtain ⟨a, cap, h1, h2, h3, _, h4⟩ := h.holds
  exact ⟨a, cap, h1, h2, h3, h4⟩
end Go.Proofs.Ytjaogmbeoldefaa
