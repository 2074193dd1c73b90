/-
  MATRICES: a matrix as a value; whether it is right, and a cell of it, by the program and by the document. Conditions: rows and columns of 64 bits with a sign; at most 2^20 cells.
-/
import Derived.Test.YtebdlmjpgohngaaRows
import Derived.Test.YtebdlmjpgohngaaOwnE
namespace Go.Proofs.Ytebdlmjpgohngaa
open Go.RowKit

theorem getD_mem {p : List Int} {i : Nat} (hi : i < p.length) : p.getD i 0 ∈ p := by
  rw [List.getD_eq_getElem?_getD, List.getElem?_eq_getElem hi]; exact List.getElem_mem hi
/-- Cells of a matrix. -/
def KW : Kind Int := ⟨32, 88, .int .u16, 0, 2⟩
theorem okW : KW.Ok := ⟨Try.underlying32, by kernel_rfl, by decide, fun _ => rfl, rfl⟩
/-- Whole numbers. -/
def KN : Kind Int := ⟨36, 3, .int .i64, 0, 8⟩
theorem okN : KN.Ok := ⟨Try.underlying36, by kernel_rfl, by decide, fun _ => rfl, rfl⟩
/-- A matrix as a value. -/
def mx (r q : Int) (v : Value) : Value := .agg #[.int .i64 r, .int .i64 q, v]
/-- A matrix, laid anew. -/
def lay3 (w : World) (r q : Int) (v : Value) : World := w.alloc (.cells #[.int .i64 r, .int .i64 q, v] 34)
/-- A block holds a matrix, and it may be written. -/
structure M3 (N : Nat) (r q : Int) (v : Value) (w : World) : Prop where
  lt : N < w.heap.size
  c0 : w.cell? ⟨N, 0, none⟩ = some (.int .i64 r)
  c1 : w.cell? ⟨N, 1, none⟩ = some (.int .i64 q)
  c2 : w.cell? ⟨N, 2, none⟩ = some v
  f0 : w.frozen? ⟨N, 0, none⟩ = false
  f1 : w.frozen? ⟨N, 1, none⟩ = false
  f2 : w.frozen? ⟨N, 2, none⟩ = false
theorem M3.below {N B : Nat} {r q : Int} {v : Value} {w w' : World} (h : M3 N r q v w) (b : Below B w w') (hB : N < B) : M3 N r q v w' :=
  ⟨Nat.lt_of_lt_of_le h.lt b.size, (b.cell hB).trans h.c0, (b.cell hB).trans h.c1, (b.cell hB).trans h.c2, (b.frozen hB).trans h.f0, (b.frozen hB).trans h.f1, (b.frozen hB).trans h.f2⟩
theorem M3.on {N : Nat} {r q : Int} {v : Value} {w w' : World} (h : M3 N r q v w) (b : Below w.heap.size w w') : M3 N r q v w' := h.below b h.lt
theorem M3.but {N b : Nat} {r q : Int} {v : Value} {w w' : World} (h : M3 N r q v w) (hb : But b w w') (hn : N ≠ b) : M3 N r q v w' :=
  ⟨Nat.lt_of_lt_of_le h.lt hb.size, (hb.cell h.lt hn).trans h.c0, (hb.cell h.lt hn).trans h.c1, (hb.cell h.lt hn).trans h.c2, (hb.frozen h.lt hn).trans h.f0, (hb.frozen h.lt hn).trans h.f1, (hb.frozen h.lt hn).trans h.f2⟩
theorem M3.drew {N : Nat} {r q : Int} {v : Value} {w : World} (h : M3 N r q v w) : M3 N r q v w.drew := ⟨h.lt, h.c0, h.c1, h.c2, h.f0, h.f1, h.f2⟩
theorem M3.drewN {N : Nat} {r q : Int} {v : Value} {w : World} (h : M3 N r q v w) (n : Nat) : M3 N r q v (w.drewN n) := ⟨h.lt, h.c0, h.c1, h.c2, h.f0, h.f1, h.f2⟩
theorem lay3_m (w : World) (r q : Int) (v : Value) : M3 w.heap.size r q v (lay3 w r q v) :=
  ⟨by simp [lay3], by simp [lay3, go_sem], by simp [lay3, go_sem], by simp [lay3, go_sem], by simp [lay3, go_sem], by simp [lay3, go_sem], by simp [lay3, go_sem]⟩
theorem lay3_below (w : World) (r q : Int) (v : Value) : Below w.heap.size w (lay3 w r q v) := (Below.refl w.heap.size w).alloc (Nat.le_refl _) _
theorem lay3_size (w : World) (r q : Int) (v : Value) : (lay3 w r q v).heap.size = w.heap.size + 1 := by simp [lay3]
theorem M3.set2 {N : Nat} {r q : Int} {v : Value} {w : World} (h : M3 N r q v w) (x : Value) : M3 N r q x (w.setCell ⟨N, 2, none⟩ x) :=
  ⟨by simpa [World.setCell] using h.lt, by rw [World.cell?_setCell_other _ _ _ _ (by simp)]; exact h.c0, by rw [World.cell?_setCell_other _ _ _ _ (by simp)]; exact h.c1, World.cell?_setCell_same _ _ _ h.c2, by rw [World.frozen?_setCell]; exact h.f0, by rw [World.frozen?_setCell]; exact h.f1, by rw [World.frozen?_setCell]; exact h.f2⟩

theorem within_any (n e : Int) (w : World) : Calls Try.prog 50 #[.int .i64 n, .int .i64 e] w fun x w' => x = .returned (.bool (decide (0 ≤ n ∧ n < e))) ∧ w = w' := by
  by_cases h1 : 0 ≤ n
  · have g1 : decide (0 ≤ n) = true := decide_eq_true h1
    by_cases h2 : n < e
    · have g2 : decide (n < e) = true := decide_eq_true h2
      rw [decide_eq_true (show 0 ≤ n ∧ n < e from ⟨h1, h2⟩)]
      clear h1 h2
      go_enter Try.func50, Try.ntmps50
      go_wp2_with fail
      go_ret
      exact ⟨rfl, rfl⟩
    · have g2 : decide (n < e) = false := decide_eq_false h2
      rw [decide_eq_false (show ¬ (0 ≤ n ∧ n < e) from fun h => h2 h.2)]
      clear h1 h2
      go_enter Try.func50, Try.ntmps50
      go_wp2_with fail
      go_ret
      exact ⟨rfl, rfl⟩
  · have g1 : decide (0 ≤ n) = false := decide_eq_false h1
    rw [decide_eq_false (show ¬ (0 ≤ n ∧ n < e) from fun h => h1 h.1)]
    clear h1
    go_enter Try.func50, Try.ntmps50
    go_wp2_with fail
    go_ret
    exact ⟨rfl, rfl⟩
theorem few_any (n : Int) (w : World) : Calls Try.prog 49 #[.int .i64 n] w fun x w' => x = .returned (.bool (decide (0 ≤ n ∧ n < 16777217))) ∧ w = w' := by
  by_cases h1 : 0 ≤ n
  · have g1 : decide (n ≥ 0) = true := decide_eq_true h1
    by_cases h2 : n < 16777217
    · have g2 : decide (n ≤ 16777216) = true := decide_eq_true (by omega)
      rw [decide_eq_true (show 0 ≤ n ∧ n < 16777217 from ⟨h1, h2⟩)]
      clear h1 h2
      go_enter Try.func49, Try.ntmps49
      go_wp2_with fail
      go_ret
      exact ⟨rfl, rfl⟩
    · have g2 : decide (n ≤ 16777216) = false := decide_eq_false (by omega)
      rw [decide_eq_false (show ¬ (0 ≤ n ∧ n < 16777217) from fun h => h2 h.2)]
      clear h1 h2
      go_enter Try.func49, Try.ntmps49
      go_wp2_with fail
      go_ret
      exact ⟨rfl, rfl⟩
  · have g1 : decide (n ≥ 0) = false := decide_eq_false h1
    rw [decide_eq_false (show ¬ (0 ≤ n ∧ n < 16777217) from fun h => h1 h.1)]
    clear h1
    go_enter Try.func49, Try.ntmps49
    go_wp2_with fail
    go_ret
    exact ⟨rfl, rfl⟩

/-- Do so many rows and columns come to so many cells? -/
def Fit (r q n : Int) : Prop := (0 ≤ r ∧ r < 16777217) ∧ (0 ≤ q ∧ q < 16777217) ∧ r * q = n
instance (r q n : Int) : Decidable (Fit r q n) := inferInstanceAs (Decidable (_ ∧ _ ∧ _))
def fitB (r q n : Int) : Bool := decide (Fit r q n)
theorem mulM_room {r q : Int} (h1 : 0 ≤ r ∧ r < 16777217) (h2 : 0 ≤ q ∧ q < 16777217) : 0 ≤ r * q ∧ r * q ≤ 281474976710656 := by
  have := Int.mul_le_mul (show r ≤ 16777216 by omega) (show q ≤ 16777216 by omega) h2.1 (by omega)
  have := Int.mul_nonneg h1.1 h2.1
  omega
theorem mulM_wrap {r q : Int} (h1 : 0 ≤ r ∧ r < 16777217) (h2 : 0 ≤ q ∧ q < 16777217) : wrap64 (r * q) = r * q := by
  have := mulM_room h1 h2
  generalize r * q = m at *
  unfold wrap64
  omega

set_option maxHeartbeats 1000000 in
theorem fits_any (r q n : Int) (w : World) : Calls Try.prog 48 #[.int .i64 r, .int .i64 q, .int .i64 n] w fun x w' => x = .returned (.bool (fitB r q n)) ∧ w = w' := by
  have c1 := within_any r 16777217 w
  by_cases h1 : 0 ≤ r ∧ r < 16777217
  · rw [decide_eq_true h1] at c1
    have c2 := within_any q 16777217 w
    by_cases h2 : 0 ≤ q ∧ q < 16777217
    · rw [decide_eq_true h2] at c2
      have hm := mulM_wrap h1 h2
      by_cases h3 : r * q = n
      · rw [show fitB r q n = true from decide_eq_true ⟨h1, h2, h3⟩]
        rw [h3] at hm
        have g3 : (wrap64 (r * q) == n) = true := by rw [h3, hm]; simp
        clear h1 h2 h3 hm
        go_enter Try.func48, Try.ntmps48
        go_wp2_with fail
        refine c1.mono ?_
        rintro e w' ⟨rfl, rfl⟩
        go_wp2_with fail
        refine c2.mono ?_
        rintro e w' ⟨rfl, rfl⟩
        go_wp2_with fail
        go_ret
        exact ⟨rfl, rfl⟩
      · rw [show fitB r q n = false from decide_eq_false (fun h => h3 h.2.2)]
        have g3 : (wrap64 (r * q) == n) = false := by rw [hm]; simpa using h3
        clear h1 h2 h3 hm
        go_enter Try.func48, Try.ntmps48
        go_wp2_with fail
        refine c1.mono ?_
        rintro e w' ⟨rfl, rfl⟩
        go_wp2_with fail
        refine c2.mono ?_
        rintro e w' ⟨rfl, rfl⟩
        go_wp2_with fail
        go_ret
        exact ⟨rfl, rfl⟩
    · rw [decide_eq_false h2] at c2
      rw [show fitB r q n = false from decide_eq_false (fun h => h2 h.2.1)]
      clear h1 h2
      go_enter Try.func48, Try.ntmps48
      go_wp2_with fail
      refine c1.mono ?_
      rintro e w' ⟨rfl, rfl⟩
      go_wp2_with fail
      refine c2.mono ?_
      rintro e w' ⟨rfl, rfl⟩
      go_wp2_with fail
      go_ret
      exact ⟨rfl, rfl⟩
  · rw [decide_eq_false h1] at c1
    rw [show fitB r q n = false from decide_eq_false (fun h => h1 h.1)]
    clear h1
    go_enter Try.func48, Try.ntmps48
    go_wp2_with fail
    refine c1.mono ?_
    rintro e w' ⟨rfl, rfl⟩
    go_wp2_with fail
    go_ret
    exact ⟨rfl, rfl⟩

theorem rightM_any (r q : Int) (a : Option Addr) (n c : Nat) (w : World) : Calls Try.prog 30 #[mx r q (.slice a n c)] w fun x w' => x = .returned (.bool (fitB r q n)) ∧ Below w.heap.size w w' := by
  have HB := Lib.hid (lay3_below w r q (.slice a n c))
  have c1 := fits_any r q (n : Int) (lay3 w r q (.slice a n c))
  unfold mx
  generalize fitB r q n = b at *
  go_enter Try.func30, Try.ntmps30
  go_wp2_with fail
  refine c1.mono ?_
  rintro e w' ⟨rfl, rfl⟩
  go_wp2_with fail
  go_ret
  exact ⟨rfl, HB.out⟩

set_option maxHeartbeats 1000000 in
theorem refRightM_any (r q : Int) (a : Option Addr) (n c : Nat) (w : World) : Calls Try.prog 32 #[mx r q (.slice a n c)] w fun x w' => x = .returned (.bool (fitB r q n)) ∧ Below w.heap.size w w' := by
  have HB := Lib.hid (lay3_below w r q (.slice a n c))
  have HM := Lib.hid (lay3_m w r q (.slice a n c))
  have c1 := few_any r (lay3 w r q (.slice a n c))
  have c2 := few_any q (lay3 w r q (.slice a n c))
  have hm : (0 ≤ r ∧ r < 16777217) → (0 ≤ q ∧ q < 16777217) → wrap64 (r * q) = r * q := mulM_wrap
  obtain ⟨z, HZ⟩ : ∃ z, Hid (fitB r q n = z) := ⟨_, rfl⟩
  rw [HZ.out]
  have HC : Hid ((0 ≤ r ∧ r < 16777217) ∧ (0 ≤ q ∧ q < 16777217) → z = decide ((n : Int) = r * q)) := fun h => by
    rw [← HZ.out]
    by_cases h3 : (n : Int) = r * q
    · rw [decide_eq_true h3]; exact decide_eq_true (show Fit r q n from ⟨h.1, h.2, h3.symm⟩)
    · rw [decide_eq_false h3]; exact decide_eq_false (fun k : Fit r q n => h3 k.2.2.symm)
  have HD : Hid (¬ (0 ≤ r ∧ r < 16777217) ∨ ¬ (0 ≤ q ∧ q < 16777217) → z = false) := fun h => by
    rw [← HZ.out]
    exact decide_eq_false (fun k => h.elim (fun h => h k.1) (fun h => h k.2.1))
  unfold mx
  by_cases h1 : 0 ≤ r ∧ r < 16777217
  · rw [decide_eq_true h1] at c1
    by_cases h2 : 0 ≤ q ∧ q < 16777217
    · rw [decide_eq_true h2] at c2
      have hz := HC.out ⟨h1, h2⟩
      have hw := hm h1 h2
      have g3 : ((n : Int) == wrap64 (r * q)) = z := by
        rw [hz, hw]
        by_cases h3 : (n : Int) = r * q
        · rw [decide_eq_true h3, h3]; simp
        · rw [decide_eq_false h3]; simpa using h3
      clear hm h1 h2 hw hz
      go_enter Try.func32, Try.ntmps32
      go_wp2_with fail
      refine c1.mono ?_
      rintro e w' ⟨rfl, rfl⟩
      have c20 := HM.out.c1
      have c21 := HM.out.c2
      have c22 := HM.out.c0
      go_wp2_with fail
      refine c2.mono ?_
      rintro e w' ⟨rfl, rfl⟩
      go_wp2_with fail
      go_ret
      exact ⟨rfl, HB.out⟩
    · rw [decide_eq_false h2] at c2
      have hz := HD.out (.inr h2)
      subst hz
      clear hm h1 h2
      go_enter Try.func32, Try.ntmps32
      go_wp2_with fail
      refine c1.mono ?_
      rintro e w' ⟨rfl, rfl⟩
      have c20 := HM.out.c1
      go_wp2_with fail
      refine c2.mono ?_
      rintro e w' ⟨rfl, rfl⟩
      go_wp2_with fail
      go_ret
      exact ⟨rfl, HB.out⟩
  · rw [decide_eq_false h1] at c1
    have hz := HD.out (.inl h1)
    subst hz
    clear hm h1
    go_enter Try.func32, Try.ntmps32
    go_wp2_with fail
    refine c1.mono ?_
    rintro e w' ⟨rfl, rfl⟩
    go_wp2_with fail
    go_ret
    exact ⟨rfl, HB.out⟩
/-- Numbers of 16 bits. -/
def In16 (C : List Int) : Prop := ∀ x ∈ C, 0 ≤ x ∧ x < 65536
theorem In16.at {C : List Int} (h : In16 C) {k : Nat} (hk : k < C.length) : 0 ≤ C.getD k 0 ∧ C.getD k 0 < 65536 := h _ (getD_mem hk)
theorem idx_lt {r q i j n : Nat} (h : r * q = n) (hi : i < r) (hj : j < q) : j * r + i < n ∧ j * r + r ≤ n := by
  have := Nat.mul_le_mul_right r (show j + 1 ≤ q by omega)
  rw [Nat.add_mul, Nat.one_mul, Nat.mul_comm q r, h] at this
  omega
theorem idx_wrap {r q i j n : Nat} (h : r * q = n) (hi : i < r) (hj : j < q) (hn : n ≤ 1048576) : wrap64 ((j : Int) * (r : Int)) = ((j * r : Nat) : Int) ∧ wrap64 (((j * r : Nat) : Int) + (i : Int)) = ((j * r + i : Nat) : Int) := by
  have := idx_lt h hi hj
  rw [← Int.natCast_mul]
  generalize j * r = m at *
  unfold wrap64
  omega
theorem conv16 {x : Int} (h : 0 ≤ x ∧ x < 65536) : wrap64 x = x := by
  unfold wrap64
  omega

/-- There is such a cell. -/
def InM (r q x y : Int) (n : Nat) : Prop := (0 ≤ x ∧ x < r) ∧ (0 ≤ y ∧ y < q) ∧ fitB r q n = true
theorem InM.nat {r q x y : Int} {n : Nat} (h : InM r q x y n) : ∃ r' q' i j : Nat, r = (r' : Int) ∧ q = (q' : Int) ∧ x = (i : Int) ∧ y = (j : Int) ∧ i < r' ∧ j < q' ∧ r' * q' = n := by
  obtain ⟨h1, h2, h3⟩ := h
  obtain ⟨k1, k2, k3⟩ := of_decide_eq_true h3
  refine ⟨r.toNat, q.toNat, x.toNat, y.toNat, by omega, by omega, by omega, by omega, by omega, by omega, ?_⟩
  obtain ⟨r', rfl⟩ := Int.eq_ofNat_of_zero_le k1.1
  obtain ⟨q', rfl⟩ := Int.eq_ofNat_of_zero_le k2.1
  rw [← Int.natCast_mul] at k3
  simp only [Int.toNat_natCast]
  omega
theorem fit_nat {r q n : Nat} (h : r * q = n) (hr : r ≤ 16777216) (hq : q ≤ 16777216) : fitB (r : Int) (q : Int) (n : Int) = true :=
  decide_eq_true ⟨by omega, by omega, by rw [← Int.natCast_mul, h]⟩

set_option maxHeartbeats 1000000 in
theorem cellM_no (r q : Int) (a : Option Addr) (n c : Nat) (x y : Int) (h : ¬ InM r q x y n) (w : World) :
    Calls Try.prog 36 #[mx r q (.slice a n c), .int .i64 x, .int .i64 y] w fun e w' => e = .returned (.tuple #[.int .i64 0, .bool false]) ∧ Below w.heap.size w w' := by
  have HB := Lib.hid (lay3_below w r q (.slice a n c))
  have HM := Lib.hid (lay3_m w r q (.slice a n c))
  obtain ⟨W0, hW0⟩ : ∃ W0, lay3 w r q (.slice a n c) = W0 := ⟨_, rfl⟩
  have c1 := within_any x r (lay3 w r q (.slice a n c))
  have c2 := within_any y q (lay3 w r q (.slice a n c))
  have c3 := rightM_any r q a n c (lay3 w r q (.slice a n c))
  unfold mx at *
  by_cases h1 : 0 ≤ x ∧ x < r
  · rw [decide_eq_true h1] at c1
    by_cases h2 : 0 ≤ y ∧ y < q
    · rw [decide_eq_true h2] at c2
      have h3 : fitB r q n = false := by
        cases hf : fitB r q n with
        | false => rfl
        | true => exact absurd ⟨h1, h2, hf⟩ h
      rw [h3] at c3
      clear h h1 h2 h3 hW0
      go_enter Try.func36, Try.ntmps36
      go_wp2_with fail
      refine c1.mono ?_
      rintro e w' ⟨rfl, rfl⟩
      have m0 := HM.out.c0
      have m1 := HM.out.c1
      have m2 := HM.out.c2
      go_wp2_with fail
      refine c2.mono ?_
      rintro e w' ⟨rfl, rfl⟩
      go_wp2_with fail
      refine c3.mono ?_
      rintro e w' ⟨rfl, b3⟩
      have HB2 := Lib.hid (HB.out.trans (b3.mono HB.out.size))
      clear b3 m0 m1 m2 c1 c2 c3
      go_wp2_with fail
      go_returns
      exact ⟨rfl, HB2.out⟩
    · rw [decide_eq_false h2] at c2
      clear h h1 h2 hW0 c3
      go_enter Try.func36, Try.ntmps36
      go_wp2_with fail
      refine c1.mono ?_
      rintro e w' ⟨rfl, rfl⟩
      have m1 := HM.out.c1
      go_wp2_with fail
      refine c2.mono ?_
      rintro e w' ⟨rfl, rfl⟩
      go_wp2_with fail
      go_returns
      exact ⟨rfl, HB.out⟩
  · rw [decide_eq_false h1] at c1
    clear h h1 hW0 c2 c3
    go_enter Try.func36, Try.ntmps36
    go_wp2_with fail
    refine c1.mono ?_
    rintro e w' ⟨rfl, rfl⟩
    go_wp2_with fail
    go_returns
    exact ⟨rfl, HB.out⟩

set_option maxHeartbeats 1000000 in
theorem cellM_ok (r q i j n : Nat) (a : Option Addr) (c : Nat) (C : List Int) (hC : C.length = n) (hn : n ≤ 1048576) (h16 : In16 C) (hf : fitB r q n = true) (hi : i < r) (hj : j < q) (w : World) (hw : HoldsE KW w a C) :
    Calls Try.prog 36 #[mx r q (.slice a n c), .int .i64 (i : Int), .int .i64 (j : Int)] w fun e w' => e = .returned (.tuple #[.int .i64 (C.getD (j * r + i) 0), .bool true]) ∧ Below w.heap.size w w' := by
  have HB := Lib.hid (lay3_below w r q (.slice a n c))
  have HM := Lib.hid (lay3_m w r q (.slice a n c))
  have hrq : r * q = n := by
    have := (of_decide_eq_true hf).2.2
    rw [← Int.natCast_mul] at this
    omega
  have c1 := within_any i r (lay3 w r q (.slice a n c))
  have c2 := within_any j q (lay3 w r q (.slice a n c))
  have c3 := rightM_any r q a n c (lay3 w r q (.slice a n c))
  rw [decide_eq_true (by omega)] at c1 c2
  rw [hf] at c3
  have hlt := idx_lt hrq hi hj
  have HK := Lib.hid (idx_wrap hrq hi hj hn)
  obtain ⟨g, off, rfl, hg, hrow⟩ := hw.at (show j * r + i < C.length by omega)
  obtain ⟨z, HZ⟩ : ∃ z, Hid (C.getD (j * r + i) 0 = z) := ⟨_, rfl⟩
  have hz := h16.at (show j * r + i < C.length by omega)
  have hcell := (HB.out.cell (by exact hg)).trans (hrow (j * r + i) (by omega))
  have hzz : C.getD (j * r + i) KW.z = z := HZ.out
  rw [hzz] at hcell
  clear hzz
  rw [HZ.out] at hz ⊢
  have hcl : (lay3 w r q (.slice (some ⟨g, off, none⟩) n c)).cell? ⟨g, off + (j * r + i), none⟩ = some (.int .u16 z) := hcell
  obtain ⟨m2, hm2⟩ : ∃ m2, j * r + i = m2 := ⟨_, rfl⟩
  clear hcell
  rw [hm2] at hcl hlt
  have i1 : (m2 : Int) < (n : Int) := by omega
  have i0 : (0 : Int) ≤ (m2 : Int) := by omega
  have HCV := Lib.hid (conv16 hz)
  obtain ⟨k1, k2⟩ := HK.out
  rw [hm2] at k2
  generalize j * r = m at *
  unfold mx at *
  clear hC hn h16 hf hi hj hw hrq hlt hrow hz hm2
  go_enter Try.func36, Try.ntmps36
  go_wp2_with fail
  refine c1.mono ?_
  rintro e w' ⟨rfl, rfl⟩
  have m0 := HM.out.c0
  have m1 := HM.out.c1
  have m2 := HM.out.c2
  go_wp2_with fail
  refine c2.mono ?_
  rintro e w' ⟨rfl, rfl⟩
  go_wp2_with fail
  refine c3.mono ?_
  rintro e w' ⟨rfl, b3⟩
  have HB2 := Lib.hid (HB.out.trans (b3.mono HB.out.size))
  have M2 := HM.out.on b3
  have e0 := M2.c0
  have e2 := M2.c2
  replace hcl := (b3.cell (by show g < _; have := HB.out.size; omega)).trans hcl
  clear b3 m0 m1 m2 c1 c2 c3 M2
  go_wp2_with fail
  go_returns
  exact ⟨congrArg (fun x => Ending.returned (Value.tuple #[.int .i64 x, .bool true])) HCV.out, HB2.out⟩

set_option maxHeartbeats 1000000 in
theorem refCell_no (r q : Int) (a : Option Addr) (n c : Nat) (x y : Int) (h : ¬ InM r q x y n) (w : World) :
    Calls Try.prog 25 #[mx r q (.slice a n c), .int .i64 x, .int .i64 y] w fun e w' => e = .returned (.int .i64 (-1)) ∧ Below w.heap.size w w' := by
  have HB := Lib.hid (lay3_below w r q (.slice a n c))
  have HM := Lib.hid (lay3_m w r q (.slice a n c))
  have c3 := refRightM_any r q a n c (lay3 w r q (.slice a n c))
  have HH : Hid (fitB r q n = false ∨ x < 0 ∨ x ≥ r ∨ y < 0 ∨ y ≥ q) := by
    show _ ∨ _
    cases hf : fitB r q n with
    | false => exact .inl rfl
    | true =>
      by_cases h1 : 0 ≤ x ∧ x < r
      · by_cases h2 : 0 ≤ y ∧ y < q
        · exact absurd ⟨h1, h2, hf⟩ h
        · omega
      · omega
  clear h
  unfold mx at *
  cases hf : fitB r q n with
  | false =>
    rw [hf] at c3
    clear hf
    go_enter Try.func25, Try.ntmps25
    go_wp2_with fail
    refine c3.mono ?_
    rintro e w' ⟨rfl, b3⟩
    have HB2 := Lib.hid (HB.out.trans (b3.mono HB.out.size))
    clear b3
    go_wp2_with fail
    go_ret
    exact ⟨rfl, HB2.out⟩
  | true =>
    rw [hf] at c3
    have HH2 : Hid (x < 0 ∨ x ≥ r ∨ y < 0 ∨ y ≥ q) := by
      rcases HH.out with h | h
      · rw [hf] at h; cases h
      · exact h
    clear hf HH
    go_enter Try.func25, Try.ntmps25
    go_wp2_with fail
    refine c3.mono ?_
    rintro e w' ⟨rfl, b3⟩
    have HB2 := Lib.hid (HB.out.trans (b3.mono HB.out.size))
    have M2 := HM.out.on b3
    have e0 := M2.c0
    have e1 := M2.c1
    have h := HH2.out
    clear b3 M2 c3
    by_cases h1 : x < 0
    · have g1 : decide (x < 0) = true := decide_eq_true h1
      clear h h1
      go_wp2_with fail
      go_ret
      exact ⟨rfl, HB2.out⟩
    have g1 : decide (x < 0) = false := decide_eq_false h1
    by_cases h2 : x ≥ r
    · have g2 : decide (x ≥ r) = true := decide_eq_true h2
      clear h h1 h2
      go_wp2_with fail
      go_ret
      exact ⟨rfl, HB2.out⟩
    have g2 : decide (x ≥ r) = false := decide_eq_false h2
    by_cases h3 : y < 0
    · have g3 : decide (y < 0) = true := decide_eq_true h3
      clear h h1 h2 h3
      go_wp2_with fail
      go_ret
      exact ⟨rfl, HB2.out⟩
    have g3 : decide (y < 0) = false := decide_eq_false h3
    have g4 : decide (y ≥ q) = true := decide_eq_true (by omega)
    clear h h1 h2 h3
    go_wp2_with fail
    go_ret
    exact ⟨rfl, HB2.out⟩

set_option maxHeartbeats 1000000 in
theorem refCell_ok (r q i j n : Nat) (a : Option Addr) (c : Nat) (C : List Int) (hC : C.length = n) (hn : n ≤ 1048576) (h16 : In16 C) (hf : fitB r q n = true) (hi : i < r) (hj : j < q) (w : World) (hw : HoldsE KW w a C) :
    Calls Try.prog 25 #[mx r q (.slice a n c), .int .i64 (i : Int), .int .i64 (j : Int)] w fun e w' => e = .returned (.int .i64 (C.getD (j * r + i) 0)) ∧ Below w.heap.size w w' := by
  have HB := Lib.hid (lay3_below w r q (.slice a n c))
  have HM := Lib.hid (lay3_m w r q (.slice a n c))
  have hrq : r * q = n := by
    have := (of_decide_eq_true hf).2.2
    rw [← Int.natCast_mul] at this
    omega
  have c3 := refRightM_any r q a n c (lay3 w r q (.slice a n c))
  rw [hf] at c3
  have g1 : decide ((i : Int) < 0) = false := decide_eq_false (by omega)
  have g2 : decide ((i : Int) ≥ (r : Int)) = false := decide_eq_false (by omega)
  have g2' : decide (r ≤ i) = false := decide_eq_false (by omega)
  have g3 : decide ((j : Int) < 0) = false := decide_eq_false (by omega)
  have g4 : decide ((j : Int) ≥ (q : Int)) = false := decide_eq_false (by omega)
  have g4' : decide (q ≤ j) = false := decide_eq_false (by omega)
  have hlt := idx_lt hrq hi hj
  have HK := Lib.hid (idx_wrap hrq hi hj hn)
  obtain ⟨g, off, rfl, hg, hrow⟩ := hw.at (show j * r + i < C.length by omega)
  obtain ⟨z, HZ⟩ : ∃ z, Hid (C.getD (j * r + i) 0 = z) := ⟨_, rfl⟩
  have hz := h16.at (show j * r + i < C.length by omega)
  have hcell := (HB.out.cell (by exact hg)).trans (hrow (j * r + i) (by omega))
  have hzz : C.getD (j * r + i) KW.z = z := HZ.out
  rw [hzz] at hcell
  clear hzz
  rw [HZ.out] at hz ⊢
  have hcl : (lay3 w r q (.slice (some ⟨g, off, none⟩) n c)).cell? ⟨g, off + (j * r + i), none⟩ = some (.int .u16 z) := hcell
  obtain ⟨m2, hm2⟩ : ∃ m2, j * r + i = m2 := ⟨_, rfl⟩
  clear hcell
  rw [hm2] at hcl hlt
  have i1 : (m2 : Int) < (n : Int) := by omega
  have i0 : (0 : Int) ≤ (m2 : Int) := by omega
  have HCV := Lib.hid (conv16 hz)
  obtain ⟨k1, k2⟩ := HK.out
  rw [hm2] at k2
  generalize j * r = m at *
  unfold mx at *
  clear hC hn h16 hf hi hj hw hrq hlt hrow hz hm2
  go_enter Try.func25, Try.ntmps25
  go_wp2_with fail
  refine c3.mono ?_
  rintro e w' ⟨rfl, b3⟩
  have HB2 := Lib.hid (HB.out.trans (b3.mono HB.out.size))
  have M2 := HM.out.on b3
  have e0 := M2.c0
  have e1 := M2.c1
  have e2 := M2.c2
  replace hcl := (b3.cell (by show g < _; have := HB.out.size; omega)).trans hcl
  clear b3 c3 M2
  go_wp2_with fail
  go_ret
  exact ⟨congrArg (fun x => Ending.returned (Value.int .i64 x)) HCV.out, HB2.out⟩

end Go.Proofs.Ytebdlmjpgohngaa
