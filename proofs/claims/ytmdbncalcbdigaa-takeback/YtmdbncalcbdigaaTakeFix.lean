/-
  The chapter's example, as each statement asks it at its end. No condition.
-/
import Derived.Test.YtmdbncalcbdigaaTry
import Derived.Carry
namespace Go.Proofs.Ytmdbncalcbdigaa
open Go.RowKit

/-- All blocks that were there, but those of S, are as they were. -/
structure Buts (S : Nat → Prop) (w w' : World) : Prop where
  os : w'.os = w.os
  tape : w'.tape = w.tape
  output : w'.output = w.output
  size : w.heap.size ≤ w'.heap.size
  block : ∀ k, k < w.heap.size → ¬ S k → w'.heap[k]? = w.heap[k]?
theorem Buts.refl (S : Nat → Prop) (w : World) : Buts S w w := ⟨rfl, rfl, rfl, Nat.le_refl _, fun _ _ _ => rfl⟩
theorem Buts.trans {S : Nat → Prop} {w1 w2 w3 : World} (h : Buts S w1 w2) (k : Buts S w2 w3) : Buts S w1 w3 :=
  ⟨k.os.trans h.os, k.tape.trans h.tape, k.output.trans h.output, Nat.le_trans h.size k.size, fun i hi hn => (k.block i (Nat.lt_of_lt_of_le hi h.size) hn).trans (h.block i hi hn)⟩
theorem Buts.but {S : Nat → Prop} {b : Nat} {w w1 w2 : World} (h : Buts S w w1) (k : But b w1 w2) (hb : S b ∨ w.heap.size ≤ b) : Buts S w w2 :=
  ⟨k.os.trans h.os, k.tape.trans h.tape, k.output.trans h.output, Nat.le_trans h.size k.size, fun i hi hn => (k.block i (Nat.lt_of_lt_of_le hi h.size) (by rintro rfl; rcases hb with hb | hb; exact hn hb; omega)).trans (h.block i hi hn)⟩
theorem Buts.below {S : Nat → Prop} {B : Nat} {w w1 w2 : World} (h : Buts S w w1) (k : Below B w1 w2) (hb : w.heap.size ≤ B) : Buts S w w2 :=
  ⟨k.os.trans h.os, k.tape.trans h.tape, k.output.trans h.output, Nat.le_trans h.size k.size, fun i hi hn => (k.block i (by omega)).trans (h.block i hi hn)⟩
theorem Buts.mono {S T : Nat → Prop} {w w' : World} (h : Buts S w w') (hs : ∀ k, S k → T k) : Buts T w w' := ⟨h.os, h.tape, h.output, h.size, fun k hk hn => h.block k hk fun h => hn (hs k h)⟩
theorem Buts.drewN {S : Nat → Prop} {w w' : World} (h : Buts S w w') (n : Nat) : Buts S w (w'.drewN n) := ⟨h.os, h.tape, h.output, h.size, h.block⟩
theorem Buts.drew {S : Nat → Prop} {w w' : World} (h : Buts S w w') : Buts S w w'.drew := ⟨h.os, h.tape, h.output, h.size, h.block⟩
theorem Buts.cell {S : Nat → Prop} {w w' : World} (h : Buts S w w') {p : Addr} (hp : p.block < w.heap.size) (hn : ¬ S p.block) : w'.cell? p = w.cell? p := World.cell?_of_block (w := w) (h.block p.block hp hn)
theorem Buts.frozen {S : Nat → Prop} {w w' : World} (h : Buts S w w') {p : Addr} (hp : p.block < w.heap.size) (hn : ¬ S p.block) : w'.frozen? p = w.frozen? p := World.frozen?_of_block (w := w) (h.block p.block hp hn)
/-- If all of S is new, what was there is as it was. -/
theorem Buts.onto {S : Nat → Prop} {B : Nat} {w0 w w' : World} (h : Buts S w w') (b : Below B w0 w) (hB : B ≤ w.heap.size) (hS : ∀ k, S k → B ≤ k) : Below B w0 w' :=
  b.trans ⟨h.os, h.tape, h.output, h.size, fun k hk => h.block k (by omega) (fun hs => by have := hS k hs; omega)⟩

/-- A variable of the caller's that may be written. -/
structure Var (X : Nat) (v : Value) (w : World) : Prop where
  c : w.cell? ⟨X, 0, none⟩ = some v
  f : w.frozen? ⟨X, 0, none⟩ = false
theorem Var.lt {X : Nat} {v : Value} {w : World} (h : Var X v w) : X < w.heap.size := World.block_lt_of_cell? w _ h.c
theorem Var.below {X B : Nat} {v : Value} {w w' : World} (h : Var X v w) (b : Below B w w') (hB : X < B) : Var X v w' := ⟨(b.cell hB).trans h.c, (b.frozen hB).trans h.f⟩
theorem Var.but {X b : Nat} {v : Value} {w w' : World} (h : Var X v w) (hb : But b w w') (hn : X ≠ b) : Var X v w' := ⟨(hb.cell h.lt hn).trans h.c, (hb.frozen h.lt hn).trans h.f⟩
theorem Var.buts {S : Nat → Prop} {X : Nat} {v : Value} {w w' : World} (h : Var X v w) (hb : Buts S w w') (hn : ¬ S X) : Var X v w' := ⟨(hb.cell h.lt hn).trans h.c, (hb.frozen h.lt hn).trans h.f⟩
theorem Var.set {X : Nat} {v : Value} {w : World} (h : Var X v w) (v2 : Value) : Var X v2 (w.setCell ⟨X, 0, none⟩ v2) := ⟨World.cell?_setCell_same _ _ _ h.c, by rw [World.frozen?_setCell]; exact h.f⟩
theorem Var.drewN {X : Nat} {v : Value} {w : World} (h : Var X v w) (n : Nat) : Var X v (w.drewN n) := ⟨h.c, h.f⟩
theorem Var.drew {X : Nat} {v : Value} {w : World} (h : Var X v w) : Var X v w.drew := ⟨h.c, h.f⟩
theorem Var.new (w : World) (v : Value) (t : TypeId) : Var w.heap.size v (w.alloc (.cells #[v] t)) := ⟨by simp [go_sem], by simp [go_sem]⟩

theorem Rd.buts {B C R : Nat} {S : Nat → Prop} {l : List UInt8} {e : Int} {w w' : World} (h : Rd B C R l e w) (hb : Buts S w w') (hn : ∀ k, B ≤ k → k < C → ¬ S k) : Rd B C R l e w' :=
  h.same (Nat.le_trans h.top hb.size) fun k hk1 hk2 => hb.block k (by have := h.top; omega) (hn k hk1 hk2)

/-- A function that only turns variables of the caller's, the reader, and what it makes itself. -/
theorem Tried.frame {w w1 w2 : World} {R : Nat} {S : Nat → Prop} (h : Buts (fun k => k = R ∨ S k) w1 w2) (hS : ∀ k, S k → k < w.heap.size) : ∀ k, w.heap.size ≤ k → k < w1.heap.size → k ≠ R → w2.heap[k]? = w1.heap[k]? :=
  fun k h1 h2 h3 => h.block k h2 (by rintro (h | h); exact h3 h; have := hS k h; omega)
/-- The caller's blocks behind it. -/
theorem Tried.whole {w w1 w2 : World} {R : Nat} {S : Nat → Prop} (b : Below w.heap.size w w1) (h : Buts (fun k => k = R ∨ S k) w1 w2) (hR : w.heap.size ≤ R) : Buts S w w2 :=
  ⟨h.os.trans b.os, h.tape.trans b.tape, h.output.trans b.output, Nat.le_trans b.size h.size, fun k hk hn => (h.block k (Nat.lt_of_lt_of_le hk b.size) (by rintro (h | h); omega; exact hn h)).trans (b.block k hk)⟩

def b123 : List UInt8 := [1, 2, 3]

theorem fixed1_any (X Y : Nat) (w : World) (vX : Value) (hX : Var X vX w) :
    Tried w 26 #[.pointer (some ⟨X, 0, none⟩), .pointer (some ⟨Y, 0, none⟩)] b123 fun _ e w2 => e = 2 ∧ Var X (.int .u64 258) w2 ∧ Buts (fun k => k = X) w w2 := by
  intro R w1 rd bel
  have lo := rd.lo
  have lX := hX.lt
  have hX1 := hX.below bel lX
  have n1 := number_some _ _ R b123 2 (by decide) w1 rd (by decide)
  rw [show ((num (b123.take (cnt 2)) : Nat) : Int) = 258 from rfl, show b123.drop (cnt 2) = [3] from rfl] at n1
  clear hX rd
  show Calls Try.prog _ #[.pointer (some ⟨R, 0, none⟩), .pointer (some ⟨X, 0, none⟩), .pointer (some ⟨Y, 0, none⟩)] _ _
  go_enter Try.func26, Try.ntmps26
  go_wp2_with fail
  refine n1.mono ?_
  rintro x w2 ⟨rfl, rd2, hb2⟩
  have hX2 := hX1.but hb2 (by omega)
  have hX3 := hX2.set (.int .u64 258)
  have hb3 := But.setCell X 0 w2 (.int .u64 258)
  have rd3 := rd2.but hb3 (by omega)
  have n2 := number_none _ _ R _ 2 (by decide) _ rd3
  have x1 := hX2.c
  have x2 := hX2.f
  clear n1 hX1 rd2 rd3 hX2
  go_wp2_with fail
  refine n2.mono ?_
  rintro x w4 ⟨rfl, rd4, hb4⟩
  have fr : Buts (fun k => k = R ∨ k = X) w1 w4 := (((Buts.refl _ w1).but hb2 (.inl (.inl rfl))).but hb3 (.inl (.inr rfl))).but hb4 (.inl (.inl rfl))
  exact ⟨rfl, [3], 2, .inr rfl, rd4, Tried.frame fr (by rintro k rfl; exact lX), rfl, hX3.but hb4 (by omega), Tried.whole bel fr (by omega)⟩

theorem fixed2_any (Y : Nat) (w : World) (vY : Value) (hY : Var Y vY w) :
    Tried w 27 #[.pointer (some ⟨Y, 0, none⟩)] b123 fun l e w2 => l = [] ∧ e = 0 ∧ Var Y (.int .u64 3) w2 ∧ Buts (fun k => k = Y) w w2 := by
  intro R w1 rd bel
  have lo := rd.lo
  have lY := hY.lt
  have hY1 := hY.below bel lY
  have n1 := number_some _ _ R b123 2 (by decide) w1 rd (by decide)
  rw [show b123.drop (cnt 2) = [3] from rfl] at n1
  clear hY rd
  show Calls Try.prog _ #[.pointer (some ⟨R, 0, none⟩), .pointer (some ⟨Y, 0, none⟩)] _ _
  go_enter Try.func27, Try.ntmps27
  go_wp2_with fail
  refine n1.mono ?_
  rintro x w2 ⟨rfl, rd2, hb2⟩
  have hY2 := hY1.but hb2 (by omega)
  have n2 := number_some _ _ R [3] 1 (by decide) w2 rd2 (by decide)
  rw [show ((num ([3].take (cnt 1)) : Nat) : Int) = 3 from rfl, show [3].drop (cnt 1) = ([] : List UInt8) from rfl] at n2
  clear n1 hY1 rd2
  go_wp2_with fail
  refine n2.mono ?_
  rintro x w3 ⟨rfl, rd3, hb3⟩
  have hY3 := hY2.but hb3 (by omega)
  have hY4 := hY3.set (.int .u64 3)
  have hb4 := But.setCell Y 0 w3 (.int .u64 3)
  have rd4 := rd3.but hb4 (by omega)
  have fr : Buts (fun k => k = R ∨ k = Y) w1 (w3.setCell ⟨Y, 0, none⟩ (.int .u64 3)) := (((Buts.refl _ w1).but hb2 (.inl (.inl rfl))).but hb3 (.inl (.inl rfl))).but hb4 (.inl (.inr rfl))
  have y1 := hY3.c
  have y2 := hY3.f
  clear n2 hY2 hY3 rd3
  go_wp2_with fail
  go_end0
  exact ⟨[], 0, .inl ⟨rfl, rfl⟩, rd4, Tried.frame fr (by rintro k rfl; exact lY), rfl, rfl, hY4, Tried.whole bel fr (by omega)⟩

theorem enters26 (x : Value) (cap : Array Value) (w : World) : (callFunc 26 (#[x] ++ cap)).run Try.prog w = .ok (.enter 26 (#[x] ++ cap)) w := by
  simp [go_sem]
theorem enters27 (x : Value) (cap : Array Value) (w : World) : (callFunc 27 (#[x] ++ cap)).run Try.prog w = .ok (.enter 27 (#[x] ++ cap)) w := by
  simp [go_sem]

/-- The three bytes, laid anew. -/
theorem holds123 (w : World) (n : Nat) (hn : n = w.heap.size) : HoldsE KB (w.alloc (.cells #[.int .u8 1, .int .u8 2, .int .u8 3] 5)) (some ⟨n, 0, none⟩) b123 := by
  subst hn
  exact (Lst.made (K := KB) w b123).holds

set_option maxHeartbeats 1000000 in
theorem fixed_any (w : World) : Calls Try.prog 7 #[] w fun e w' => e = .returned (.bool true) ∧ Below w.heap.size w w' := by
  have hmf : ∀ (fn : Fn) (first cap : Array Value) (w : World), (Instr.makeFunc fn first cap).run Try.prog w = .ok (.func fn first cap) w := fun _ _ _ _ => rfl
  have b1 := (Below.refl w.heap.size w).alloc (Nat.le_refl _) (.cells #[.int .u64 0] 31)
  have x1 := Var.new w (.int .u64 0) 31
  have s1 : (w.alloc (.cells #[.int .u64 0] 31)).heap.size = w.heap.size + 1 := by simp
  generalize hw1 : w.alloc (.cells #[.int .u64 0] 31) = w1 at b1 x1 s1
  have b2 := (Below.refl w1.heap.size w1).alloc (Nat.le_refl _) (.cells #[.int .u64 0] 31)
  have y2 := Var.new w1 (.int .u64 0) 31
  have s2 : (w1.alloc (.cells #[.int .u64 0] 31)).heap.size = w1.heap.size + 1 := by simp
  have x2 := x1.below b2 (by omega)
  generalize hw2 : w1.alloc (.cells #[.int .u64 0] 31) = w2 at b2 y2 s2 x2
  have b3 := (Below.refl w2.heap.size w2).alloc (Nat.le_refl _) (.cells #[.int .u8 1, .int .u8 2, .int .u8 3] 5)
  have h3 := holds123 w2 (w.heap.size + 1 + 1) (by omega)
  have x3 := x2.below b3 (by omega)
  have y3 := y2.below b3 (by omega)
  have s3 : (w2.alloc (.cells #[.int .u8 1, .int .u8 2, .int .u8 3] 5)).heap.size = w2.heap.size + 1 := by simp
  have t1 := try_any 26 #[.pointer (some ⟨w.heap.size, 0, none⟩), .pointer (some ⟨w.heap.size + 1, 0, none⟩)] _ 3 3 b123 rfl (by decide) (fun h => by cases h) _ h3 (fun x w => enters26 x _ w) _ (fixed1_any _ _ _ _ x3)
  have bel : Below w.heap.size w (w2.alloc (.cells #[.int .u8 1, .int .u8 2, .int .u8 3] 5)) := (b1.trans (b2.mono (by omega))).trans (b3.mono (by omega))
  rw [show w1.heap.size = w.heap.size + 1 by omega] at y3
  have hs3 : (w2.alloc (.cells #[.int .u8 1, .int .u8 2, .int .u8 3] 5)).heap.size = w.heap.size + 3 := by omega
  subst hw2 hw1
  clear b1 x1 s1 b2 y2 s2 x2 b3 h3 x3 s3
  go_enter Try.func7, Try.ntmps7
  go_wp2_with fail
  refine t1.mono ?_
  clear t1
  generalize ((w.alloc (.cells #[.int .u64 0] 31)).alloc (.cells #[.int .u64 0] 31)).alloc (.cells #[.int .u8 1, .int .u8 2, .int .u8 3] 5) = W at *
  rintro x w5 ⟨l', e, w4, rfl, ⟨rfl, x4, f4⟩, hb⟩
  rw [show endE l' 2 = 2 from rfl]
  have y4 := y3.buts f4 (by omega)
  have x5 := x4.but hb (by omega)
  have y5 := y4.but hb (by omega)
  have f5 := f4.but hb (.inr (Nat.le_refl _))
  have bel5 := f5.onto bel (by omega) (by rintro k rfl; exact Nat.le_refl _)
  have s5 := f5.size
  clear y3 f4 hb x4 y4 f5 bel
  have b6 := (Below.refl w5.heap.size w5).alloc (Nat.le_refl _) (.cells #[.int .u8 1, .int .u8 2, .int .u8 3] 5)
  have h6 := holds123 w5 _ rfl
  have x6 := x5.below b6 (by omega)
  have y6 := y5.below b6 (by omega)
  have bel6 := bel5.trans (b6.mono (by omega))
  have t2 := try_any 27 #[.pointer (some ⟨w.heap.size + 1, 0, none⟩)] _ 3 3 b123 rfl (by decide) (fun h => by cases h) _ h6 (fun x w => enters27 x _ w) _ (fixed2_any _ _ _ y6)
  have s6 : (w5.alloc (.cells #[.int .u8 1, .int .u8 2, .int .u8 3] 5)).heap.size = w5.heap.size + 1 := by simp
  clear b6 h6 x5 y5 bel5
  go_wp2_with fail
  refine t2.mono ?_
  clear t2
  generalize w5.alloc (.cells #[.int .u8 1, .int .u8 2, .int .u8 3] 5) = W6 at *
  rintro x w8 ⟨l', e, w7, rfl, ⟨rfl, rfl, y7, f7⟩, hb⟩
  rw [show endE [] 0 = 0 from rfl]
  have x7 := x6.buts f7 (by omega)
  have x8 := x7.but hb (by omega)
  have y8 := y7.but hb (by omega)
  have bel8 := (f7.but hb (.inr (Nat.le_refl _))).onto bel6 (by omega) (by rintro k rfl; omega)
  have c1 := x8.c
  have c2 := y8.c
  clear x7 f7 hb y7 x6 y6 x8 y8 bel6
  go_wp2_with fail
  go_ret
  exact ⟨rfl, bel8⟩
end Go.Proofs.Ytmdbncalcbdigaa
