/-
  MATRICES: a matrix as a value; whether it is right, by the program and by the document. Condition: rows and columns of 64 bits with a sign.
-/
import Derived.Test.YtjaogmbeoldefaaOwnE
import Derived.Test.YtjaogmbeoldefaaPermN
namespace Go.Proofs.Ytjaogmbeoldefaa
open Go.RowKit

/-- Cells of a matrix. -/
def KW : Kind Int := ⟨40, 59, .int .u16, 0, 2⟩
theorem okW : KW.Ok := ⟨Try.underlying40, by kernel_rfl, by decide, fun _ => rfl, rfl⟩
/-- Whole numbers. -/
def KN : Kind Int := ⟨54, 3, .int .i64, 0, 8⟩
theorem okN : KN.Ok := ⟨Try.underlying54, by kernel_rfl, by decide, fun _ => rfl, rfl⟩
/-- A slice, as three parts. -/
abbrev Hdr := Option Addr × Nat × Nat
/-- Slices of values. -/
def KS : Kind Hdr := ⟨35, 31, fun h => .slice h.1 h.2.1 h.2.2, (none, 0, 0), 24⟩
theorem okS : KS.Ok := ⟨Try.underlying35, by kernel_rfl, by decide, fun _ => rfl, rfl⟩

/-- A matrix as a value. -/
def mx (r q : Int) (v : Value) : Value := .agg #[.int .i64 r, .int .i64 q, v]
/-- A matrix, laid anew. -/
def lay3 (w : World) (r q : Int) (v : Value) : World := w.alloc (.cells #[.int .i64 r, .int .i64 q, v] 42)
/-- A block holds a matrix, and it may be written. -/
structure M3 (N : Nat) (r q : Int) (v : Value) (w : World) : Prop where
  lt : N < w.heap.size
  c0 : w.cell? ⟨N, 0, none⟩ = some (.int .i64 r)
  c1 : w.cell? ⟨N, 1, none⟩ = some (.int .i64 q)
  c2 : w.cell? ⟨N, 2, none⟩ = some v
  f0 : w.frozen? ⟨N, 0, none⟩ = false
  f1 : w.frozen? ⟨N, 1, none⟩ = false
  f2 : w.frozen? ⟨N, 2, none⟩ = false
theorem M3.below {N B : Nat} {r q : Int} {v : Value} {w w' : World} (h : M3 N r q v w) (b : Below B w w') (hB : N < B) : M3 N r q v w' :=
  ⟨Nat.lt_of_lt_of_le h.lt b.size, (b.cell hB).trans h.c0, (b.cell hB).trans h.c1, (b.cell hB).trans h.c2, (b.frozen hB).trans h.f0, (b.frozen hB).trans h.f1, (b.frozen hB).trans h.f2⟩
theorem M3.on {N : Nat} {r q : Int} {v : Value} {w w' : World} (h : M3 N r q v w) (b : Below w.heap.size w w') : M3 N r q v w' := h.below b h.lt
theorem M3.but {N b : Nat} {r q : Int} {v : Value} {w w' : World} (h : M3 N r q v w) (hb : But b w w') (hn : N ≠ b) : M3 N r q v w' :=
  ⟨Nat.lt_of_lt_of_le h.lt hb.size, (hb.cell h.lt hn).trans h.c0, (hb.cell h.lt hn).trans h.c1, (hb.cell h.lt hn).trans h.c2, (hb.frozen h.lt hn).trans h.f0, (hb.frozen h.lt hn).trans h.f1, (hb.frozen h.lt hn).trans h.f2⟩
theorem M3.drew {N : Nat} {r q : Int} {v : Value} {w : World} (h : M3 N r q v w) : M3 N r q v w.drew := ⟨h.lt, h.c0, h.c1, h.c2, h.f0, h.f1, h.f2⟩
theorem M3.drewN {N : Nat} {r q : Int} {v : Value} {w : World} (h : M3 N r q v w) (n : Nat) : M3 N r q v (w.drewN n) := ⟨h.lt, h.c0, h.c1, h.c2, h.f0, h.f1, h.f2⟩
theorem lay3_m (w : World) (r q : Int) (v : Value) : M3 w.heap.size r q v (lay3 w r q v) :=
  ⟨by simp [lay3], by simp [lay3, go_sem], by simp [lay3, go_sem], by simp [lay3, go_sem], by simp [lay3, go_sem], by simp [lay3, go_sem], by simp [lay3, go_sem]⟩
theorem lay3_below (w : World) (r q : Int) (v : Value) : Below w.heap.size w (lay3 w r q v) := (Below.refl w.heap.size w).alloc (Nat.le_refl _) _
theorem lay3_size (w : World) (r q : Int) (v : Value) : (lay3 w r q v).heap.size = w.heap.size + 1 := by simp [lay3]
theorem M3.set2 {N : Nat} {r q : Int} {v : Value} {w : World} (h : M3 N r q v w) (x : Value) : M3 N r q x (w.setCell ⟨N, 2, none⟩ x) :=
  ⟨by simpa [World.setCell] using h.lt, by rw [World.cell?_setCell_other _ _ _ _ (by simp)]; exact h.c0, by rw [World.cell?_setCell_other _ _ _ _ (by simp)]; exact h.c1, World.cell?_setCell_same _ _ _ h.c2, by rw [World.frozen?_setCell]; exact h.f0, by rw [World.frozen?_setCell]; exact h.f1, by rw [World.frozen?_setCell]; exact h.f2⟩

theorem within_any (n e : Int) (w : World) : Calls Try.prog 38 #[.int .i64 n, .int .i64 e] w fun x w' => x = .returned (.bool (decide (0 ≤ n ∧ n < e))) ∧ w = w' := by
  by_cases h1 : 0 ≤ n
  · have g1 : decide (0 ≤ n) = true := decide_eq_true h1
    by_cases h2 : n < e
    · have g2 : decide (n < e) = true := decide_eq_true h2
      rw [decide_eq_true (show 0 ≤ n ∧ n < e from ⟨h1, h2⟩)]
      clear h1 h2
      go_enter Try.func38, Try.ntmps38
      go_wp2_with fail
      go_ret
      exact ⟨rfl, rfl⟩
    · have g2 : decide (n < e) = false := decide_eq_false h2
      rw [decide_eq_false (show ¬ (0 ≤ n ∧ n < e) from fun h => h2 h.2)]
      clear h1 h2
      go_enter Try.func38, Try.ntmps38
      go_wp2_with fail
      go_ret
      exact ⟨rfl, rfl⟩
  · have g1 : decide (0 ≤ n) = false := decide_eq_false h1
    rw [decide_eq_false (show ¬ (0 ≤ n ∧ n < e) from fun h => h1 h.1)]
    clear h1
    go_enter Try.func38, Try.ntmps38
    go_wp2_with fail
    go_ret
    exact ⟨rfl, rfl⟩
theorem few_any (n : Int) (w : World) : Calls Try.prog 32 #[.int .i64 n] w fun x w' => x = .returned (.bool (decide (0 ≤ n ∧ n < 16777217))) ∧ w = w' := by
  by_cases h1 : 0 ≤ n
  · have g1 : decide (n ≥ 0) = true := decide_eq_true h1
    by_cases h2 : n < 16777217
    · have g2 : decide (n ≤ 16777216) = true := decide_eq_true (by omega)
      rw [decide_eq_true (show 0 ≤ n ∧ n < 16777217 from ⟨h1, h2⟩)]
      clear h1 h2
      go_enter Try.func32, Try.ntmps32
      go_wp2_with fail
      go_ret
      exact ⟨rfl, rfl⟩
    · have g2 : decide (n ≤ 16777216) = false := decide_eq_false (by omega)
      rw [decide_eq_false (show ¬ (0 ≤ n ∧ n < 16777217) from fun h => h2 h.2)]
      clear h1 h2
      go_enter Try.func32, Try.ntmps32
      go_wp2_with fail
      go_ret
      exact ⟨rfl, rfl⟩
  · have g1 : decide (n ≥ 0) = false := decide_eq_false h1
    rw [decide_eq_false (show ¬ (0 ≤ n ∧ n < 16777217) from fun h => h1 h.1)]
    clear h1
    go_enter Try.func32, Try.ntmps32
    go_wp2_with fail
    go_ret
    exact ⟨rfl, rfl⟩

/-- Do so many rows and columns come to so many cells? -/
def Fit (r q n : Int) : Prop := (0 ≤ r ∧ r < 16777217) ∧ (0 ≤ q ∧ q < 16777217) ∧ r * q = n
instance (r q n : Int) : Decidable (Fit r q n) := inferInstanceAs (Decidable (_ ∧ _ ∧ _))
def fitB (r q n : Int) : Bool := decide (Fit r q n)
theorem mul_room {r q : Int} (h1 : 0 ≤ r ∧ r < 16777217) (h2 : 0 ≤ q ∧ q < 16777217) : 0 ≤ r * q ∧ r * q ≤ 281474976710656 := by
  have := Int.mul_le_mul (show r ≤ 16777216 by omega) (show q ≤ 16777216 by omega) h2.1 (by omega)
  have := Int.mul_nonneg h1.1 h2.1
  omega
theorem mul_wrap {r q : Int} (h1 : 0 ≤ r ∧ r < 16777217) (h2 : 0 ≤ q ∧ q < 16777217) : wrap64 (r * q) = r * q := by
  have := mul_room h1 h2
  generalize r * q = m at *
  unfold wrap64
  omega

set_option maxHeartbeats 1000000 in
theorem fits_any (r q n : Int) (w : World) : Calls Try.prog 29 #[.int .i64 r, .int .i64 q, .int .i64 n] w fun x w' => x = .returned (.bool (fitB r q n)) ∧ w = w' := by
  have c1 := within_any r 16777217 w
  by_cases h1 : 0 ≤ r ∧ r < 16777217
  · rw [decide_eq_true h1] at c1
    have c2 := within_any q 16777217 w
    by_cases h2 : 0 ≤ q ∧ q < 16777217
    · rw [decide_eq_true h2] at c2
      have hm := mul_wrap h1 h2
      by_cases h3 : r * q = n
      · rw [show fitB r q n = true from decide_eq_true ⟨h1, h2, h3⟩]
        rw [h3] at hm
        have g3 : (wrap64 (r * q) == n) = true := by rw [h3, hm]; simp
        clear h1 h2 h3 hm
        go_enter Try.func29, Try.ntmps29
        go_wp2_with fail
        refine c1.mono ?_
        rintro e w' ⟨rfl, rfl⟩
        go_wp2_with fail
        refine c2.mono ?_
        rintro e w' ⟨rfl, rfl⟩
        go_wp2_with fail
        go_ret
        exact ⟨rfl, rfl⟩
      · rw [show fitB r q n = false from decide_eq_false (fun h => h3 h.2.2)]
        have g3 : (wrap64 (r * q) == n) = false := by rw [hm]; simpa using h3
        clear h1 h2 h3 hm
        go_enter Try.func29, Try.ntmps29
        go_wp2_with fail
        refine c1.mono ?_
        rintro e w' ⟨rfl, rfl⟩
        go_wp2_with fail
        refine c2.mono ?_
        rintro e w' ⟨rfl, rfl⟩
        go_wp2_with fail
        go_ret
        exact ⟨rfl, rfl⟩
    · rw [decide_eq_false h2] at c2
      rw [show fitB r q n = false from decide_eq_false (fun h => h2 h.2.1)]
      clear h1 h2
      go_enter Try.func29, Try.ntmps29
      go_wp2_with fail
      refine c1.mono ?_
      rintro e w' ⟨rfl, rfl⟩
      go_wp2_with fail
      refine c2.mono ?_
      rintro e w' ⟨rfl, rfl⟩
      go_wp2_with fail
      go_ret
      exact ⟨rfl, rfl⟩
  · rw [decide_eq_false h1] at c1
    rw [show fitB r q n = false from decide_eq_false (fun h => h1 h.1)]
    clear h1
    go_enter Try.func29, Try.ntmps29
    go_wp2_with fail
    refine c1.mono ?_
    rintro e w' ⟨rfl, rfl⟩
    go_wp2_with fail
    go_ret
    exact ⟨rfl, rfl⟩

theorem rightM_any (r q : Int) (a : Option Addr) (n c : Nat) (w : World) : Calls Try.prog 22 #[mx r q (.slice a n c)] w fun x w' => x = .returned (.bool (fitB r q n)) ∧ Below w.heap.size w w' := by
  have HB := Lib.hid (lay3_below w r q (.slice a n c))
  have c1 := fits_any r q (n : Int) (lay3 w r q (.slice a n c))
  unfold mx
  generalize fitB r q n = b at *
  go_enter Try.func22, Try.ntmps22
  go_wp2_with fail
  refine c1.mono ?_
  rintro e w' ⟨rfl, rfl⟩
  go_wp2_with fail
  go_ret
  exact ⟨rfl, HB.out⟩

set_option maxHeartbeats 1000000 in
theorem refRightM_any (r q : Int) (a : Option Addr) (n c : Nat) (w : World) : Calls Try.prog 23 #[mx r q (.slice a n c)] w fun x w' => x = .returned (.bool (fitB r q n)) ∧ Below w.heap.size w w' := by
  have HB := Lib.hid (lay3_below w r q (.slice a n c))
  have HM := Lib.hid (lay3_m w r q (.slice a n c))
  have c1 := few_any r (lay3 w r q (.slice a n c))
  have c2 := few_any q (lay3 w r q (.slice a n c))
  have hm : (0 ≤ r ∧ r < 16777217) → (0 ≤ q ∧ q < 16777217) → wrap64 (r * q) = r * q := mul_wrap
  obtain ⟨z, HZ⟩ : ∃ z, Hid (fitB r q n = z) := ⟨_, rfl⟩
  rw [HZ.out]
  have HC : Hid ((0 ≤ r ∧ r < 16777217) ∧ (0 ≤ q ∧ q < 16777217) → z = decide ((n : Int) = r * q)) := fun h => by
    rw [← HZ.out]
    by_cases h3 : (n : Int) = r * q
    · rw [decide_eq_true h3]; exact decide_eq_true (show Fit r q n from ⟨h.1, h.2, h3.symm⟩)
    · rw [decide_eq_false h3]; exact decide_eq_false (fun k : Fit r q n => h3 k.2.2.symm)
  have HD : Hid (¬ (0 ≤ r ∧ r < 16777217) ∨ ¬ (0 ≤ q ∧ q < 16777217) → z = false) := fun h => by
    rw [← HZ.out]
    exact decide_eq_false (fun k => h.elim (fun h => h k.1) (fun h => h k.2.1))
  unfold mx
  by_cases h1 : 0 ≤ r ∧ r < 16777217
  · rw [decide_eq_true h1] at c1
    by_cases h2 : 0 ≤ q ∧ q < 16777217
    · rw [decide_eq_true h2] at c2
      have hz := HC.out ⟨h1, h2⟩
      have hw := hm h1 h2
      have g3 : ((n : Int) == wrap64 (r * q)) = z := by
        rw [hz, hw]
        by_cases h3 : (n : Int) = r * q
        · rw [decide_eq_true h3, h3]; simp
        · rw [decide_eq_false h3]; simpa using h3
      clear hm h1 h2 hw hz
      go_enter Try.func23, Try.ntmps23
      go_wp2_with fail
      refine c1.mono ?_
      rintro e w' ⟨rfl, rfl⟩
      have c20 := HM.out.c1
      have c21 := HM.out.c2
      have c22 := HM.out.c0
      go_wp2_with fail
      refine c2.mono ?_
      rintro e w' ⟨rfl, rfl⟩
      go_wp2_with fail
      go_ret
      exact ⟨rfl, HB.out⟩
    · rw [decide_eq_false h2] at c2
      have hz := HD.out (.inr h2)
      subst hz
      clear hm h1 h2
      go_enter Try.func23, Try.ntmps23
      go_wp2_with fail
      refine c1.mono ?_
      rintro e w' ⟨rfl, rfl⟩
      have c20 := HM.out.c1
      go_wp2_with fail
      refine c2.mono ?_
      rintro e w' ⟨rfl, rfl⟩
      go_wp2_with fail
      go_ret
      exact ⟨rfl, HB.out⟩
  · rw [decide_eq_false h1] at c1
    have hz := HD.out (.inl h1)
    subst hz
    clear hm h1
    go_enter Try.func23, Try.ntmps23
    go_wp2_with fail
    refine c1.mono ?_
    rintro e w' ⟨rfl, rfl⟩
    go_wp2_with fail
    go_ret
    exact ⟨rfl, HB.out⟩
end Go.Proofs.Ytjaogmbeoldefaa
