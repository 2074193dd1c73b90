/-
  The chapter's example, as each statement asks it at its end. No condition.
-/
import Derived.Test.YtbmbgfmhejahjaaTry
import Derived.Carry
namespace Go.Proofs.Ytbmbgfmhejahjaa
open Go.RowKit

/-- All blocks that were there, but those of S, are as they were. -/
structure Buts (S : Nat → Prop) (w w' : World) : Prop where
  os : w'.os = w.os
  tape : w'.tape = w.tape
  output : w'.output = w.output
  size : w.heap.size ≤ w'.heap.size
  block : ∀ k, k < w.heap.size → ¬ S k → w'.heap[k]? = w.heap[k]?
theorem Buts.refl (S : Nat → Prop) (w : World) : Buts S w w := ⟨rfl, rfl, rfl, Nat.le_refl _, fun _ _ _ => rfl⟩
theorem Buts.trans {S : Nat → Prop} {w1 w2 w3 : World} (h : Buts S w1 w2) (k : Buts S w2 w3) : Buts S w1 w3 :=
  ⟨k.os.trans h.os, k.tape.trans h.tape, k.output.trans h.output, Nat.le_trans h.size k.size, fun i hi hn => (k.block i (Nat.lt_of_lt_of_le hi h.size) hn).trans (h.block i hi hn)⟩
theorem Buts.but {S : Nat → Prop} {b : Nat} {w w1 w2 : World} (h : Buts S w w1) (k : But b w1 w2) (hb : S b ∨ w.heap.size ≤ b) : Buts S w w2 :=
  ⟨k.os.trans h.os, k.tape.trans h.tape, k.output.trans h.output, Nat.le_trans h.size k.size, fun i hi hn => (k.block i (Nat.lt_of_lt_of_le hi h.size) (by rintro rfl; rcases hb with hb | hb; exact hn hb; omega)).trans (h.block i hi hn)⟩
theorem Buts.below {S : Nat → Prop} {B : Nat} {w w1 w2 : World} (h : Buts S w w1) (k : Below B w1 w2) (hb : w.heap.size ≤ B) : Buts S w w2 :=
  ⟨k.os.trans h.os, k.tape.trans h.tape, k.output.trans h.output, Nat.le_trans h.size k.size, fun i hi hn => (k.block i (by omega)).trans (h.block i hi hn)⟩
theorem Buts.mono {S T : Nat → Prop} {w w' : World} (h : Buts S w w') (hs : ∀ k, S k → T k) : Buts T w w' := ⟨h.os, h.tape, h.output, h.size, fun k hk hn => h.block k hk fun h => hn (hs k h)⟩
theorem Buts.drewN {S : Nat → Prop} {w w' : World} (h : Buts S w w') (n : Nat) : Buts S w (w'.drewN n) := ⟨h.os, h.tape, h.output, h.size, h.block⟩
theorem Buts.drew {S : Nat → Prop} {w w' : World} (h : Buts S w w') : Buts S w w'.drew := ⟨h.os, h.tape, h.output, h.size, h.block⟩
theorem Buts.cell {S : Nat → Prop} {w w' : World} (h : Buts S w w') {p : Addr} (hp : p.block < w.heap.size) (hn : ¬ S p.block) : w'.cell? p = w.cell? p := World.cell?_of_block (w := w) (h.block p.block hp hn)
theorem Buts.frozen {S : Nat → Prop} {w w' : World} (h : Buts S w w') {p : Addr} (hp : p.block < w.heap.size) (hn : ¬ S p.block) : w'.frozen? p = w.frozen? p := World.frozen?_of_block (w := w) (h.block p.block hp hn)
/-- If all of S is new, what was there is as it was. -/
theorem Buts.onto {S : Nat → Prop} {B : Nat} {w0 w w' : World} (h : Buts S w w') (b : Below B w0 w) (hB : B ≤ w.heap.size) (hS : ∀ k, S k → B ≤ k) : Below B w0 w' :=
  b.trans ⟨h.os, h.tape, h.output, h.size, fun k hk => h.block k (by omega) (fun hs => by have := hS k hs; omega)⟩

/-- A variable of the caller's that may be written. -/
structure Var (X : Nat) (v : Value) (w : World) : Prop where
  c : w.cell? ⟨X, 0, none⟩ = some v
  f : w.frozen? ⟨X, 0, none⟩ = false
theorem Var.lt {X : Nat} {v : Value} {w : World} (h : Var X v w) : X < w.heap.size := World.block_lt_of_cell? w _ h.c
theorem Var.below {X B : Nat} {v : Value} {w w' : World} (h : Var X v w) (b : Below B w w') (hB : X < B) : Var X v w' := ⟨(b.cell hB).trans h.c, (b.frozen hB).trans h.f⟩
theorem Var.but {X b : Nat} {v : Value} {w w' : World} (h : Var X v w) (hb : But b w w') (hn : X ≠ b) : Var X v w' := ⟨(hb.cell h.lt hn).trans h.c, (hb.frozen h.lt hn).trans h.f⟩
theorem Var.buts {S : Nat → Prop} {X : Nat} {v : Value} {w w' : World} (h : Var X v w) (hb : Buts S w w') (hn : ¬ S X) : Var X v w' := ⟨(hb.cell h.lt hn).trans h.c, (hb.frozen h.lt hn).trans h.f⟩
theorem Var.set {X : Nat} {v : Value} {w : World} (h : Var X v w) (v2 : Value) : Var X v2 (w.setCell ⟨X, 0, none⟩ v2) := ⟨World.cell?_setCell_same _ _ _ h.c, by rw [World.frozen?_setCell]; exact h.f⟩
theorem Var.drewN {X : Nat} {v : Value} {w : World} (h : Var X v w) (n : Nat) : Var X v (w.drewN n) := ⟨h.c, h.f⟩
theorem Var.drew {X : Nat} {v : Value} {w : World} (h : Var X v w) : Var X v w.drew := ⟨h.c, h.f⟩
theorem Var.new (w : World) (v : Value) (t : TypeId) : Var w.heap.size v (w.alloc (.cells #[v] t)) := ⟨by simp [go_sem], by simp [go_sem]⟩

theorem Rd.buts {B C R : Nat} {S : Nat → Prop} {l : List UInt8} {e : Int} {w w' : World} (h : Rd B C R l e w) (hb : Buts S w w') (hn : ∀ k, B ≤ k → k < C → ¬ S k) : Rd B C R l e w' :=
  h.same (Nat.le_trans h.top hb.size) fun k hk1 hk2 => hb.block k (by have := h.top; omega) (hn k hk1 hk2)

/-- A function that only turns variables of the caller's, the reader, and what it makes itself. -/
theorem Tried.frame {w w1 w2 : World} {R : Nat} {S : Nat → Prop} (h : Buts (fun k => k = R ∨ S k) w1 w2) (hS : ∀ k, S k → k < w.heap.size) : ∀ k, w.heap.size ≤ k → k < w1.heap.size → k ≠ R → w2.heap[k]? = w1.heap[k]? :=
  fun k h1 h2 h3 => h.block k h2 (by rintro (h | h); exact h3 h; have := hS k h; omega)
/-- The caller's blocks behind it. -/
theorem Tried.whole {w w1 w2 : World} {R : Nat} {S : Nat → Prop} (b : Below w.heap.size w w1) (h : Buts (fun k => k = R ∨ S k) w1 w2) (hR : w.heap.size ≤ R) : Buts S w w2 :=
  ⟨h.os.trans b.os, h.tape.trans b.tape, h.output.trans b.output, Nat.le_trans b.size h.size, fun k hk hn => (h.block k (Nat.lt_of_lt_of_le hk b.size) (by rintro (h | h); omega; exact hn h)).trans (b.block k hk)⟩

def b123 : List UInt8 := [1, 2, 3]

/-- The three bytes, laid anew. -/
theorem holds123 (w : World) (n : Nat) (hn : n = w.heap.size) : HoldsE KB (w.alloc (.cells #[.int .u8 1, .int .u8 2, .int .u8 3] 5)) (some ⟨n, 0, none⟩) b123 := by
  subst hn
  exact (Lst.made (K := KB) w b123).holds

end Go.Proofs.Ytbmbgfmhejahjaa
