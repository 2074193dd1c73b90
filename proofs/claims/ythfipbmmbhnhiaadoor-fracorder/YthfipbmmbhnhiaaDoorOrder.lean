/-
  FracOrder's walk: how two fractions, and two signed ones, stand to one another is the document's. Condition: each number is of 64 bits; the library's table of powers of ten reads as its own text lays it.
-/
import Derived.Test.YthfipbmmbhnhiaaDoorRefFracS
import Derived.Test.YthfipbmmbhnhiaaDoorFixF
namespace Go.Proofs.YthfipbmmbhnhiaaDoor
open Go.RowKit

/-- The three variables of the law, and the table. -/
structure Ord (a b c : Nat) (ah al ad bh bl bd n d m e : Int) (w0 w : World) : Prop where
  A : At3 a ah al ad w
  B : At3 b bh bl bd w
  lt : c < w.heap.size
  c0 : w.cell? ⟨c, 0, none⟩ = some (.int .i64 n)
  c1 : w.cell? ⟨c, 1, none⟩ = some (.int .i64 d)
  c2 : w.cell? ⟨c, 2, none⟩ = some (.int .i64 m)
  c3 : w.cell? ⟨c, 3, none⟩ = some (.int .i64 e)
  tab : Tab w
  bel : Below w0.heap.size w0 w
theorem Ord.below {a b c : Nat} {ah al ad bh bl bd n d m e : Int} {w0 w w' : World} (h : Ord a b c ah al ad bh bl bd n d m e w0 w) (k : Below w.heap.size w w') : Ord a b c ah al ad bh bl bd n d m e w0 w' :=
  ⟨h.A.below k, h.B.below k, Nat.lt_of_lt_of_le h.lt k.size, (k.cell (by exact h.lt)).trans h.c0, (k.cell (by exact h.lt)).trans h.c1, (k.cell (by exact h.lt)).trans h.c2, (k.cell (by exact h.lt)).trans h.c3, h.tab.below k, onto h.bel k⟩
theorem Ord.drew {a b c : Nat} {ah al ad bh bl bd n d m e : Int} {w0 w : World} (h : Ord a b c ah al ad bh bl bd n d m e w0 w) : Ord a b c ah al ad bh bl bd n d m e w0 w.drew := h.below (Below.refl _ w).drew
theorem Ord.cells {a b c : Nat} {ah al ad bh bl bd n d m e : Int} {w0 w : World} (h : Ord a b c ah al ad bh bl bd n d m e w0 w) :
    (w.cell? ⟨a, 0, none⟩ = some (.int .u64 ah) ∧ w.cell? ⟨a, 1, none⟩ = some (.int .u64 al) ∧ w.cell? ⟨a, 2, none⟩ = some (.int .u64 ad)) ∧
    (w.cell? ⟨b, 0, none⟩ = some (.int .u64 bh) ∧ w.cell? ⟨b, 1, none⟩ = some (.int .u64 bl) ∧ w.cell? ⟨b, 2, none⟩ = some (.int .u64 bd)) ∧
    (w.cell? ⟨c, 0, none⟩ = some (.int .i64 n) ∧ w.cell? ⟨c, 1, none⟩ = some (.int .i64 d) ∧ w.cell? ⟨c, 2, none⟩ = some (.int .i64 m) ∧ w.cell? ⟨c, 3, none⟩ = some (.int .i64 e)) := ⟨⟨h.A.c0, h.A.c1, h.A.c2⟩, ⟨h.B.c0, h.B.c1, h.B.c2⟩, h.c0, h.c1, h.c2, h.c3⟩
theorem cell4 (X : World) (k : Nat) (hk : X.heap.size = k) (v0 v1 v2 v3 : Value) (t : TypeId) : (X.alloc (.cells #[v0, v1, v2, v3] t)).cell? ⟨k, 0, none⟩ = some v0 ∧ (X.alloc (.cells #[v0, v1, v2, v3] t)).cell? ⟨k, 1, none⟩ = some v1 ∧ (X.alloc (.cells #[v0, v1, v2, v3] t)).cell? ⟨k, 2, none⟩ = some v2 ∧ (X.alloc (.cells #[v0, v1, v2, v3] t)).cell? ⟨k, 3, none⟩ = some v3 := by
  subst hk
  exact ⟨by simp, by simp, by simp, by simp⟩
theorem boxesOrd (w : World) (ht : Tab w) (ah al ad bh bl bd n d m e : Int) : Ord w.heap.size (w.heap.size + 1) (w.heap.size + 1 + 1) ah al ad bh bl bd n d m e w (((w.alloc (.cells #[.int .u64 ah, .int .u64 al, .int .u64 ad] 26)).alloc (.cells #[.int .u64 bh, .int .u64 bl, .int .u64 bd] 26)).alloc (.cells #[.int .i64 n, .int .i64 d, .int .i64 m, .int .i64 e] 29)) := by
  obtain ⟨xA, xB, b0⟩ := boxesF w ah al ad bh bl bd _ rfl
  obtain ⟨c0, c1, c2, c3⟩ := cell4 ((w.alloc (.cells #[.int .u64 ah, .int .u64 al, .int .u64 ad] 26)).alloc (.cells #[.int .u64 bh, .int .u64 bl, .int .u64 bd] 26)) (w.heap.size + 1 + 1) (by simp) (.int .i64 n) (.int .i64 d) (.int .i64 m) (.int .i64 e) 29
  exact ⟨xA.alloc _, xB.alloc _, by simp, c0, c1, c2, c3, ht.below (more b0 _), more b0 _⟩

set_option maxRecDepth 100000 in
set_option maxHeartbeats 8000000 in
theorem order_any (ah al ad bh bl bd n d m e : Int) (h1 : Word ah) (h2 : Word al) (h3 : Word ad) (h4 : Word bh) (h5 : Word bl) (h6 : Word bd) (h7 : Whole n) (h8 : Whole d) (h9 : Whole m) (h10 : Whole e) (w : World) (ht : Tab w) :
    Calls Tryd.prog 3 #[fr ah al ad, fr bh bl bd, .agg #[.int .i64 n, .int .i64 d, .int .i64 m, .int .i64 e]] w fun x w' => x = .returned (.bool true) ∧ Below w.heap.size w w' := by
  have q0 := boxesOrd w ht ah al ad bh bl bd n d m e
  go_enter Tryd.func3, Tryd.ntmps3
  go_wp2_with fail
  generalize ((w.alloc (.cells #[.int .u64 ah, .int .u64 al, .int .u64 ad] 26)).alloc (.cells #[.int .u64 bh, .int .u64 bl, .int .u64 bd] 26)).alloc (.cells #[.int .i64 n, .int .i64 d, .int .i64 m, .int .i64 e] 29) = W at *
  have q := q0.drew
  go_region_held3 (fun w' => (w'.cell? ⟨w.heap.size, 0, none⟩ = some (.int .u64 ah) ∧ w'.cell? ⟨w.heap.size, 1, none⟩ = some (.int .u64 al) ∧ w'.cell? ⟨w.heap.size, 2, none⟩ = some (.int .u64 ad)) ∧ (w'.cell? ⟨w.heap.size + 1, 0, none⟩ = some (.int .u64 bh) ∧ w'.cell? ⟨w.heap.size + 1, 1, none⟩ = some (.int .u64 bl) ∧ w'.cell? ⟨w.heap.size + 1, 2, none⟩ = some (.int .u64 bd)) ∧ (w'.cell? ⟨w.heap.size + 1 + 1, 0, none⟩ = some (.int .i64 n) ∧ w'.cell? ⟨w.heap.size + 1 + 1, 1, none⟩ = some (.int .i64 d) ∧ w'.cell? ⟨w.heap.size + 1 + 1, 2, none⟩ = some (.int .i64 m) ∧ w'.cell? ⟨w.heap.size + 1 + 1, 3, none⟩ = some (.int .i64 e))) (first | exact q.cells | exact q0.cells)
    (first
      | (go_at_call 8; refine (fixed_any _ q.tab).mono ?_; rintro x w' ⟨rfl, c⟩; replace q := q.below c; clear c)
      | (go_at_call 9; refine (fCmp_any _ _ _ _ _ _ (by assumption) (by assumption) (by assumption) (by assumption) (by assumption) (by assumption) _).mono ?_; rintro x w' ⟨rfl, c⟩; replace q := q.below c; clear c)
      | (go_at_call 10; refine (refF_any _ _ _ _ _ _ (by assumption) (by assumption) (by assumption) (by assumption) (by assumption) (by assumption) _).mono ?_; rintro x w' ⟨rfl, c⟩; replace q := q.below c; clear c)
      | (go_at_call 11; refine (cmpSigned_any _ _ _ _ (by assumption) (by assumption) (by assumption) (by assumption) _).mono ?_; rintro x w' ⟨rfl, c⟩; replace q := q.below c; clear c)
      | (go_at_call 12; refine (refS_any _ _ _ _ (by assumption) (by assumption) (by assumption) (by assumption) _).mono ?_; rintro x w' ⟨rfl, c⟩; replace q := q.below c; clear c)
      | (go_at_call 13; refine (right_any _ _ _ _).mono ?_; rintro x w' ⟨rfl, c⟩; replace q := q.below c; clear c)
      | (go_at_call 14; refine (of_any _ _ _).mono ?_; rintro x w' ⟨rfl, c⟩; replace q := q.below c; clear c))
  go_wp2_with fail
  go_ret
  exact ⟨rfl, q.bel⟩
end Go.Proofs.YthfipbmmbhnhiaaDoor
