/-
  FracSame's walk: a fraction is as much as the same one with both its numbers multiplied, and less than one with a greater number above. Condition: three numbers of 32 bits; the library's table of powers of ten reads as its own text lays it.
-/
import Derived.Test.YthfipbmmbhnhiaaDoorFixF
namespace Go.Proofs.YthfipbmmbhnhiaaDoor
open Go.RowKit

theorem At3.newK (X : World) (k : Nat) (hk : X.heap.size = k) (x y z : Int) : At3 k x y z (X.alloc (.cells #[.int .u64 x, .int .u64 y, .int .u64 z] 26)) := by subst hk; exact At3.newF X x y z
theorem AtS.newK (X : World) (k : Nat) (hk : X.heap.size = k) (x y : Int) : AtS k x y (X.alloc (.cells #[.int .i64 x, .int .i64 y] 28)) := by subst hk; exact AtS.new X x y

/-- The four variables of the law, and the table. -/
structure Four (a b s t : Nat) (n d p q : Int) (w0 w : World) : Prop where
  A : At3 a 0 n d w
  B : At3 b 0 p q w
  S : AtS s (-n) d w
  T : AtS t (-n - 1) d w
  tab : Tab w
  bel : Below w0.heap.size w0 w
theorem Four.below {a b s t : Nat} {n d p q : Int} {w0 w w' : World} (h : Four a b s t n d p q w0 w) (k : Below w.heap.size w w') : Four a b s t n d p q w0 w' := ⟨h.A.below k, h.B.below k, h.S.below k, h.T.below k, h.tab.below k, onto h.bel k⟩
theorem Four.drew {a b s t : Nat} {n d p q : Int} {w0 w : World} (h : Four a b s t n d p q w0 w) : Four a b s t n d p q w0 w.drew := h.below (Below.refl _ w).drew
theorem Four.cells {a b s t : Nat} {n d p q : Int} {w0 w : World} (h : Four a b s t n d p q w0 w) :
    (w.cell? ⟨a, 0, none⟩ = some (.int .u64 0) ∧ w.cell? ⟨a, 1, none⟩ = some (.int .u64 n) ∧ w.cell? ⟨a, 2, none⟩ = some (.int .u64 d)) ∧
    (w.cell? ⟨b, 0, none⟩ = some (.int .u64 0) ∧ w.cell? ⟨b, 1, none⟩ = some (.int .u64 p) ∧ w.cell? ⟨b, 2, none⟩ = some (.int .u64 q)) ∧
    (w.cell? ⟨s, 0, none⟩ = some (.int .i64 (-n)) ∧ w.cell? ⟨s, 1, none⟩ = some (.int .i64 d)) ∧
    (w.cell? ⟨t, 0, none⟩ = some (.int .i64 (-n - 1)) ∧ w.cell? ⟨t, 1, none⟩ = some (.int .i64 d)) := ⟨⟨h.A.c0, h.A.c1, h.A.c2⟩, ⟨h.B.c0, h.B.c1, h.B.c2⟩, ⟨h.S.c0, h.S.c1⟩, h.T.c0, h.T.c1⟩

theorem boxesFour (w : World) (ht : Tab w) (o1 o2 : Obj) (n d p q : Int) : Four (w.heap.size + 1) (w.heap.size + 1 + 1 + 1) (w.heap.size + 1 + 1 + 1 + 1) (w.heap.size + 1 + 1 + 1 + 1 + 1) n d p q w
    ((((((w.alloc o1).alloc (.cells #[.int .u64 0, .int .u64 n, .int .u64 d] 26)).alloc o2).alloc (.cells #[.int .u64 0, .int .u64 p, .int .u64 q] 26)).alloc (.cells #[.int .i64 (-n), .int .i64 d] 28)).alloc (.cells #[.int .i64 (-n - 1), .int .i64 d] 28)) := by
  have b := more (more (more (more (more (alloc_below w o1) (.cells #[.int .u64 0, .int .u64 n, .int .u64 d] 26)) o2) (.cells #[.int .u64 0, .int .u64 p, .int .u64 q] 26)) (.cells #[.int .i64 (-n), .int .i64 d] 28)) (.cells #[.int .i64 (-n - 1), .int .i64 d] 28)
  exact ⟨((((At3.newK _ _ (by simp) 0 n d).alloc _).alloc _).alloc _).alloc _, ((At3.newK _ _ (by simp) 0 p q).alloc _).alloc _, (AtS.newK _ _ (by simp) (-n) d).alloc _, AtS.newK _ _ (by simp) (-n - 1) d, ht.below b, b⟩

/-- The law's four answers. -/
theorem same_mul {n d k : Int} (hd : 0 < d) (hk : 0 < k) : cmpF n d (n * k) (d * k) = 0 := by
  have h : 0 < d * k := Int.mul_pos hd hk
  unfold cmpF
  rw [if_neg (by omega), if_neg (by omega), cmpI_eq]
  grind
theorem same_more {n d : Int} (hd : 0 < d) : cmpF n d (n + 1) d = -1 := by
  unfold cmpF
  rw [if_neg (by omega), if_neg (by omega), cmpI_lt]
  rw [Int.add_mul]; omega
theorem same_neg {n d : Int} (hd : 1 ≤ d) : cmpS (-n) d (-n - 1) d = 1 := by
  unfold cmpS
  rw [if_neg (by omega), if_neg (by omega), cmpI_gt]
  rw [Int.sub_mul]; omega
theorem same_neg' {n d : Int} (hd : 1 ≤ d) : cmpS (-n - 1) d (-n) d = -1 := by
  unfold cmpS
  rw [if_neg (by omega), if_neg (by omega), cmpI_lt]
  rw [Int.sub_mul]; omega

set_option maxRecDepth 100000 in
set_option maxHeartbeats 4000000 in
theorem same_any (n d k : Int) (hn : 0 ≤ n ∧ n < 4294967296) (hd : 0 ≤ d ∧ d < 4294967296) (hk : 0 ≤ k ∧ k < 4294967296) (w : World) (ht : Tab w) :
    Calls Tryd.prog 6 #[.int .u32 n, .int .u32 d, .int .u32 k] w fun e w' => e = .returned (.bool true) ∧ Below w.heap.size w w' := by
  by_cases h0 : d = 0
  · subst h0
    go_enter Tryd.func6, Tryd.ntmps6
    go_wp2_with (go_at_call 8; refine (fixed_any _ ht).mono ?_; rintro x w' ⟨rfl, c⟩)
    go_ret
    exact ⟨rfl, c⟩
  · have g0 : (d == 0) = false := by simpa using h0
    by_cases h1 : k = 0
    · subst h1
      go_enter Tryd.func6, Tryd.ntmps6
      go_wp2_with (go_at_call 8; refine (fixed_any _ ht).mono ?_; rintro x w' ⟨rfl, c⟩)
      go_ret
      exact ⟨rfl, c⟩
    · have g1 : (k == 0) = false := by simpa using h1
      have m1 := step_num (o := 0) (c := 0) (x := 0) (y := 0) (by omega) (by omega) (by omega) (by omega)
      have b1 : 0 ≤ n * k := Int.mul_nonneg hn.1 hk.1
      have b2 : n * k ≤ 4294967295 * 4294967295 := Int.mul_le_mul (by omega) (by omega) hk.1 (by decide)
      have b3 : 0 ≤ d * k := Int.mul_nonneg hd.1 hk.1
      have b4 : d * k ≤ 4294967295 * 4294967295 := Int.mul_le_mul (by omega) (by omega) hk.1 (by decide)
      clear m1
      have e1 := same_mul (n := n) (d := d) (k := k) (by omega) (by omega)
      have e2 := same_more (n := n) (d := d) (by omega)
      have e3 := same_neg (n := n) (d := d) (by omega)
      have e4 := same_neg' (n := n) (d := d) (by omega)
      obtain ⟨P, HP⟩ : ∃ P, Hid (n * k = P) := ⟨_, rfl⟩
      obtain ⟨Q, HQ⟩ : ∃ Q, Hid (d * k = Q) := ⟨_, rfl⟩
      have u1 : IntKind.u64.wrap (n * k) = P := by rw [← HP.out, IntKind.wrap_u64]; omega
      have u2 : IntKind.u64.wrap (d * k) = Q := by rw [← HQ.out, IntKind.wrap_u64]; omega
      rw [HP.out] at b1 b2 e1
      rw [HQ.out] at b3 b4 e1
      have u3 : wrap64 (-n) = -n := by unfold wrap64; omega
      have u4 : wrap64 (-n - 1) = -n - 1 := by unfold wrap64; omega
      have u5 : IntKind.u64.wrap (n + 1) = n + 1 := by rw [IntKind.wrap_u64]; omega
      have v1 : IntKind.u64.wrap n = n := by rw [IntKind.wrap_u64]; omega
      have v2 : IntKind.u64.wrap d = d := by rw [IntKind.wrap_u64]; omega
      have W0 : Word 0 := by unfold Word; omega
      have W1 : Word n := by unfold Word; omega
      have W2 : Word d := by unfold Word; omega
      have W3 : Word P := by unfold Word; omega
      have W4 : Word Q := by unfold Word; omega
      have W5 : Word (n + 1) := by unfold Word; omega
      have X1 : Whole (-n) := by unfold Whole; omega
      have X2 : Whole (-n - 1) := by unfold Whole; omega
      have X3 : Whole d := by unfold Whole; omega
      clear b1 b2 b3 b4 h0 h1
      go_enter Tryd.func6, Tryd.ntmps6
      go_wp2_with (go_at_call 14; refine (of_at _ _ _).mono ?_; rintro e w1 ⟨rfl, rfl⟩)
      have q0 := boxesFour w ht (.cells #[.int .u64 0, .int .u64 n, .int .u64 d] 26) (.cells #[.int .u64 0, .int .u64 P, .int .u64 Q] 26) n d P Q
      generalize (((((w.alloc (.cells #[.int .u64 0, .int .u64 n, .int .u64 d] 26)).alloc (.cells #[.int .u64 0, .int .u64 n, .int .u64 d] 26)).alloc (.cells #[.int .u64 0, .int .u64 P, .int .u64 Q] 26)).alloc (.cells #[.int .u64 0, .int .u64 P, .int .u64 Q] 26)).alloc (.cells #[.int .i64 (-n), .int .i64 d] 28)).alloc (.cells #[.int .i64 (-n - 1), .int .i64 d] 28) = W at *
      have q := q0.drew
      go_region_held3 (fun w' => (w'.cell? ⟨w.heap.size + 1, 0, none⟩ = some (.int .u64 0) ∧ w'.cell? ⟨w.heap.size + 1, 1, none⟩ = some (.int .u64 n) ∧ w'.cell? ⟨w.heap.size + 1, 2, none⟩ = some (.int .u64 d)) ∧ (w'.cell? ⟨w.heap.size + 1 + 1 + 1, 0, none⟩ = some (.int .u64 0) ∧ w'.cell? ⟨w.heap.size + 1 + 1 + 1, 1, none⟩ = some (.int .u64 P) ∧ w'.cell? ⟨w.heap.size + 1 + 1 + 1, 2, none⟩ = some (.int .u64 Q)) ∧ (w'.cell? ⟨w.heap.size + 1 + 1 + 1 + 1, 0, none⟩ = some (.int .i64 (-n)) ∧ w'.cell? ⟨w.heap.size + 1 + 1 + 1 + 1, 1, none⟩ = some (.int .i64 d)) ∧ (w'.cell? ⟨w.heap.size + 1 + 1 + 1 + 1 + 1, 0, none⟩ = some (.int .i64 (-n - 1)) ∧ w'.cell? ⟨w.heap.size + 1 + 1 + 1 + 1 + 1, 1, none⟩ = some (.int .i64 d))) (first | exact q.cells | exact q0.cells)
        (first
          | (go_at_call 8; refine (fixed_any _ q.tab).mono ?_; rintro x w' ⟨rfl, c⟩; replace q := q.below c; clear c)
          | (go_at_call 9; (try simp only [v1, v2, u5]); refine (fCmp_any _ _ _ _ _ _ (by assumption) (by assumption) (by assumption) (by assumption) (by assumption) (by assumption) _).mono ?_; rintro x w' ⟨rfl, c⟩; replace q := q.below c; clear c)
          | (go_at_call 11; refine (cmpSigned_any _ _ _ _ (by assumption) (by assumption) (by assumption) (by assumption) _).mono ?_; rintro x w' ⟨rfl, c⟩; replace q := q.below c; clear c)
          | (go_at_call 14; refine (of_any _ _ _).mono ?_; rintro x w' ⟨rfl, c⟩; replace q := q.below c; clear c))
      go_wp2_with fail
      go_ret
      exact ⟨rfl, q.bel⟩
end Go.Proofs.YthfipbmmbhnhiaaDoor
