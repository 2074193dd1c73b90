/-
  THE CALLS OF stream: a key is the fold of four numbers; its i-th number; a stream hands them out one by one, and nothing else turns. Conditions: the package's table of rounds reads as its text lays it; fewer than 2^63 are taken.
-/
import Derived.Test.YtikdiaikggojjaaDoorFold
import Derived.Test.YtikdiaikggojjaaDoorSrc
import Derived.Deep.RegionHeld3
namespace Go.Proofs.YtikdiaikggojjaaDoor
open Go.RowKit

/-- A key's i-th number. -/
def atI (k i : Int) : Int := mixI (bits .xor .u64 k (mixI i))

set_option maxHeartbeats 400000 in
theorem at_any (k i : Int) (t : TypeId) (fr : Nat × Nat) (w : World) (hg : w.heap[0]? = some (.cells cs9 t fr)) :
    Calls Tryd.prog 7 #[.int .u64 k, .int .u64 i] w fun e w' => e = .returned (.int .u64 (atI k i)) ∧ Below w.heap.size w w' := by
  have h0 : 0 < w.heap.size := (Array.getElem?_eq_some_iff.1 hg).1
  have HG := Lib.hid hg; clear hg
  go_enter Tryd.func7, Tryd.ntmps7
  go_wp2_with fail
  refine (mix_any _ t fr _ HG.out).mono ?_
  rintro e w1 ⟨rfl, b1⟩
  go_wp2_with fail
  refine (mix_any _ t fr _ (laid_below HG.out h0 b1)).mono ?_
  rintro e w2 ⟨rfl, b2'⟩
  have b2 := b1.trans (b2'.mono b1.size)
  go_wp2_with fail
  go_ret
  exact ⟨rfl, b2⟩

theorem row_four (w : World) (a b c d : Int) : HoldsRow (w.alloc (.cells #[.int .u64 a, .int .u64 b, .int .u64 c, .int .u64 d] 22)) (some ⟨w.heap.size, 0, none⟩) [a, b, c, d] := by
  refine .inr ⟨w.heap.size, 0, rfl, by simp, fun j hj => ?_⟩
  have : j = 0 ∨ j = 1 ∨ j = 2 ∨ j = 3 := by simp at hj; omega
  rcases this with rfl | rfl | rfl | rfl <;> simp

set_option maxHeartbeats 400000 in
theorem key_any (a b c d : Int) (t : TypeId) (fr : Nat × Nat) (w : World) (hg : w.heap[0]? = some (.cells cs9 t fr)) :
    Calls Tryd.prog 5 #[.int .u64 a, .int .u64 b, .int .u64 c, .int .u64 d] w fun e w' => e = .returned (.int .u64 (foldI [a, b, c, d])) ∧ Below w.heap.size w w' := by
  have h0 : 0 < w.heap.size := (Array.getElem?_eq_some_iff.1 hg).1
  have HG := Lib.hid hg; clear hg
  go_enter Tryd.func5, Tryd.ntmps5
  go_wp2_with fail
  refine (fold_any _ _ 4 [a, b, c, d] t fr _ (laid_below HG.out h0 ((Below.refl _ _).alloc (Nat.le_refl _) _)) (by decide) rfl (row_four w a b c d)).mono ?_
  rintro e w1 ⟨rfl, b1⟩
  have b2 : Below w.heap.size w w1 := ((Below.refl _ _).alloc (Nat.le_refl _) _).trans (b1.mono (by simp))
  clear b1
  go_wp2_with fail
  go_ret
  exact ⟨rfl, b2⟩

/-- A stream of a key lies at block b, of which t have been taken. -/
structure StreamAt (b : Nat) (k : Int) (t : Nat) (w : World) : Prop where
  lt : b < w.heap.size
  c0 : w.cell? ⟨b, 0, none⟩ = some (.int .u64 k)
  c1 : w.cell? ⟨b, 1, none⟩ = some (.int .u64 t)
  f1 : w.frozen? ⟨b, 1, none⟩ = false

theorem StreamAt.below {b : Nat} {k : Int} {t : Nat} {w w' : World} (h : StreamAt b k t w) (hb : Below w.heap.size w w') : StreamAt b k t w' :=
  ⟨Nat.lt_of_lt_of_le h.lt hb.size, (hb.cell (by exact h.lt)).trans h.c0, (hb.cell (by exact h.lt)).trans h.c1, (hb.frozen (by exact h.lt)).trans h.f1⟩
theorem StreamAt.but {b b' : Nat} {k : Int} {t : Nat} {w w' : World} (h : StreamAt b k t w) (hn : b ≠ b') (hb : But b' w w') : StreamAt b k t w' :=
  ⟨Nat.lt_of_lt_of_le h.lt hb.size, (hb.cell (by exact h.lt) (by exact hn)).trans h.c0, (hb.cell (by exact h.lt) (by exact hn)).trans h.c1, (hb.frozen (by exact h.lt) (by exact hn)).trans h.f1⟩
theorem StreamAt.made (w : World) (k : Int) : StreamAt w.heap.size k 0 (w.alloc (.cells #[.int .u64 k, .int .u64 0] 39)) :=
  ⟨by simp, by simp, by simp, by simp⟩
theorem StreamAt.next {b : Nat} {k : Int} {t : Nat} {w : World} (h : StreamAt b k t w) : StreamAt b k (t + 1) (w.setCell ⟨b, 1, none⟩ (.int .u64 ((t : Int) + 1))) := by
  refine ⟨by have := h.lt; simp [World.setCell]; omega, ?_, ?_, ?_⟩
  · rw [World.cell?_setCell_other _ _ _ _ (by simp)]; exact h.c0
  · exact (World.cell?_setCell_same _ _ _ h.c1).trans (by simp)
  · rw [World.frozen?_setCell]; exact h.f1

theorem new_any (k : Int) (w : World) :
    Calls Tryd.prog 9 #[.int .u64 k] w fun e w' => e = .returned (.pointer (some ⟨w.heap.size, 0, none⟩)) ∧ w.alloc (.cells #[.int .u64 k, .int .u64 0] 39) = w' := by
  go_enter Tryd.func9, Tryd.ntmps9
  go_wp2
  go_ret
  exact ⟨rfl, rfl⟩

theorem taken_any (b : Nat) (k : Int) (t : Nat) (w : World) (h : StreamAt b k t w) :
    Calls Tryd.prog 11 #[.pointer (some ⟨b, 0, none⟩)] w fun e w' => e = .returned (.int .u64 t) ∧ w = w' := by
  have c1 := h.c1
  go_enter Tryd.func11, Tryd.ntmps11
  go_wp2
  go_ret
  exact ⟨rfl, rfl⟩

set_option maxHeartbeats 400000 in
theorem next_any (b : Nat) (k : Int) (n : Nat) (t : TypeId) (fr : Nat × Nat) (w : World) (hg : w.heap[0]? = some (.cells cs9 t fr)) (hn : n < 9223372036854775808) (h : StreamAt b k n w) :
    Calls Tryd.prog 12 #[.pointer (some ⟨b, 0, none⟩)] w fun e w' => e = .returned (.int .u64 (atI k n)) ∧ StreamAt b k (n + 1) w' ∧ But b w w' := by
  have h0 : 0 < w.heap.size := (Array.getElem?_eq_some_iff.1 hg).1
  have c0 := h.c0
  have c1 := h.c1
  have HG := Lib.hid (show w.drew.heap[0]? = some (.cells cs9 t fr) from hg); clear hg
  have HS := Lib.hid (h.below (Below.refl _ _).drew)
  clear h
  go_enter Tryd.func12, Tryd.ntmps12
  go_wp2_with fail
  go_region_held3 (fun w' => w'.cell? ⟨b, 0, none⟩ = some (.int .u64 k) ∧ w'.cell? ⟨b, 1, none⟩ = some (.int .u64 n)) (first | exact ⟨c0, c1⟩ | exact ⟨d0, d1⟩)
    (first | (go_at_call 7; refine (at_any _ _ t fr _ HG.out).mono ?_; rintro e w1 ⟨rfl, b1⟩; have hs := HS.out.below b1; have d0 := hs.c0; have d1 := hs.c1; have g1 := hs.f1; have hB := But.of_below (b := b) b1; have HS1 := Lib.hid hs; clear b1 hs))
  have hB2 := (But.refl b w).drew.trans hB
  clear hB
  go_wp2
  go_ret
  exact ⟨rfl, HS1.out.next, hB2.trans (But.setCell b 1 _ _)⟩
end Go.Proofs.YtikdiaikggojjaaDoor
