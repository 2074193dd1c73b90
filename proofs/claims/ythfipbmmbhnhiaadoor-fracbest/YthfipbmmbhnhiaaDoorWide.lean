/-
  THE SMALL ARITHMETIC OF prod: math/bits' sum with carry and long product, cmp.Compare at uint64, and prod's own functions, each as what it answers over whole numbers. Condition: each number is of 64 bits.
-/
import Derived.Test.YthfipbmmbhnhiaaDoorRows
import Derived.WalkKit
import Derived.WalkSpells
import Derived.WalkLawsBesides
import Derived.Lib.Hide
import Derived.Shelf.Bits.Mul64
import Derived.Laws.Externs
import Derived.Handy
import Derived.Deep.QuietTactic
import Derived.BigQuiet
import Derived.Deep.RegionHeld3
namespace Go.Proofs.YthfipbmmbhnhiaaDoor
open Go.RowKit Go.Shelf

/-- A number of 64 bits. -/
def Word (x : Int) : Prop := 0 ≤ x ∧ x < 18446744073709551616
/-- Of 64 bits, with a sign. -/
def Whole (x : Int) : Prop := -9223372036854775808 ≤ x ∧ x < 9223372036854775808

/-- How two numbers stand to one another. -/
def cmpI (x y : Int) : Int := if x < y then -1 else if y < x then 1 else 0
theorem cmpI_lt {x y : Int} (h : x < y) : cmpI x y = -1 := if_pos h
theorem cmpI_gt {x y : Int} (h : y < x) : cmpI x y = 1 := by unfold cmpI; rw [if_neg (by omega), if_pos h]
theorem cmpI_eq {x y : Int} (h : x = y) : cmpI x y = 0 := by unfold cmpI; rw [if_neg (by omega), if_neg (by omega)]

theorem add64 (x y c : Int) (hx : 0 ≤ x) (hy : 0 ≤ y) (hc0 : 0 ≤ c) (hc : c ≤ 1) (w : World) : (callFunc 34 #[.int .u64 x, .int .u64 y, .int .u64 c]).run Tryd.prog w =
    .ok (.value (.tuple #[.int .u64 ((x + y + c) % 18446744073709551616), .int .u64 ((x + y + c) / 18446744073709551616)])) w := by
  rw [run_callFunc_extern Tryd.func34 (by kernel_rfl) (by kernel_rfl) (by kernel_rfl) (e := add64Entry) (by kernel_rfl), run_add64 x y c hx hy hc0 hc]
  simp only [Result.andThen]
theorem add64_0 (x y : Int) (hx : 0 ≤ x) (hy : 0 ≤ y) (w : World) : (callFunc 34 #[.int .u64 x, .int .u64 y, .int .u64 0]).run Tryd.prog w =
    .ok (.value (.tuple #[.int .u64 ((x + y) % 18446744073709551616), .int .u64 ((x + y) / 18446744073709551616)])) w := by
  simpa using add64 x y 0 hx hy (Int.le_refl 0) (by decide) w

/-- The library's long product, laid at this program. -/
def laysMul_ren : Go.Shelf.Ren := ⟨fun | 264 => 38 | n => n, fun | 46 => 72 | 53 => 22 | n => n, fun n => n⟩
theorem laysMul : Lays.n264 Tryd.prog laysMul_ren := {
  mixed := by kernel_rfl
  f264 := Tryd.func38.trans (congrArg some (by kernel_rfl))
  t46 := Tryd.underlying72
  a46 := Tryd.isAgg72
  z46 := Tryd.sizeOf72
  v46 := Tryd.zeroValue72
  t53 := Tryd.underlying22
  a53 := Tryd.isAgg22
  z53 := Tryd.sizeOf22
  v53 := Tryd.zeroValue22 }

/-- The two halves of a product. -/
def hi (x y : Int) : Int := x * y / 18446744073709551616
def lo (x y : Int) : Int := x * y % 18446744073709551616
theorem hi_word {x y : Int} (hx : Word x) (hy : Word y) : Word (hi x y) := by
  have h0 : 0 ≤ x * y := Int.mul_nonneg hx.1 hy.1
  have h1 : x * y ≤ 18446744073709551615 * 18446744073709551615 := Int.mul_le_mul (by have := hx.2; omega) (by have := hy.2; omega) hy.1 (by decide)
  unfold hi
  exact ⟨by omega, by omega⟩
theorem hi_small {x y : Int} (hx : Word x) (hy : Word y) : hi x y ≤ 18446744073709551614 := by
  have h1 : x * y ≤ 18446744073709551615 * 18446744073709551615 := Int.mul_le_mul (by have := hx.2; omega) (by have := hy.2; omega) hy.1 (by decide)
  unfold hi
  omega
theorem lo_word (x y : Int) : Word (lo x y) := by unfold lo; exact ⟨by omega, by omega⟩
theorem hi_lo (x y : Int) : hi x y * 18446744073709551616 + lo x y = x * y := by unfold hi lo; omega

theorem mul64 (x y : Int) (hx : Word x) (hy : Word y) (w : World) :
    Calls Tryd.prog 38 #[.int .u64 x, .int .u64 y] w fun e w' => e = .returned (.tuple #[.int .u64 (hi x y), .int .u64 (lo x y)]) ∧ w = w' := by
  obtain ⟨x, rfl⟩ := Int.eq_ofNat_of_zero_le hx.1
  obtain ⟨y, rfl⟩ := Int.eq_ofNat_of_zero_le hy.1
  have e1 : ((x * y / 18446744073709551616 : Nat) : Int) = hi x y := by unfold hi; rw [← Int.natCast_mul]; omega
  have e2 : ((x * y % 18446744073709551616 : Nat) : Int) = lo x y := by unfold lo; rw [← Int.natCast_mul]; omega
  have := Any.bits_Mul64 laysMul x y (by have := hx.2; omega) (by have := hy.2; omega) w
  rw [e1, e2] at this
  exact Calls.mono this fun _ _ h => ⟨h.1, h.2.symm⟩

theorem nan_any (x : Int) (w : World) : Calls Tryd.prog 37 #[.int .u64 x] w fun e w' => e = .returned (.bool false) ∧ w = w' := by
  go_enter Tryd.func37, Tryd.ntmps37
  go_wp2
  go_ret
  exact ⟨by simp, rfl⟩

theorem compare_any (x y : Int) (w : World) : Calls Tryd.prog 32 #[.int .u64 x, .int .u64 y] w fun e w' => e = .returned (.int .i64 (cmpI x y)) ∧ w = w' := by
  rcases Int.lt_trichotomy x y with h | h | h
  · have HC := Lib.hid (cmpI_lt h)
    go_enter Tryd.func32, Tryd.ntmps32
    go_wp2_with (go_at_call 37; refine (nan_any _ _).mono ?_; rintro e w' ⟨rfl, rfl⟩)
    go_ret
    exact ⟨by rw [HC.out]; rfl, rfl⟩
  · have HC := Lib.hid (cmpI_eq h)
    subst h
    go_enter Tryd.func32, Tryd.ntmps32
    go_wp2_with (go_at_call 37; refine (nan_any _ _).mono ?_; rintro e w' ⟨rfl, rfl⟩)
    go_ret
    exact ⟨by rw [HC.out]; rfl, rfl⟩
  · have HC := Lib.hid (cmpI_gt h)
    go_enter Tryd.func32, Tryd.ntmps32
    go_wp2_with (go_at_call 37; refine (nan_any _ _).mono ?_; rintro e w' ⟨rfl, rfl⟩)
    go_ret
    exact ⟨by rw [HC.out]; rfl, rfl⟩

theorem alloc_below (w : World) (o : Obj) : Below w.heap.size w (w.alloc o) := (Below.refl _ w).alloc (Nat.le_refl _) o

theorem mul_at (x y : Int) (hx : Word x) (hy : Word y) (w : World) :
    Calls Tryd.prog 33 #[.int .u64 x, .int .u64 y] w fun e w' => e = .returned (.agg #[.int .u64 (hi x y), .int .u64 (lo x y)]) ∧ w.alloc (.cells #[.int .u64 (hi x y), .int .u64 (lo x y)] 24) = w' := by
  go_enter Tryd.func33, Tryd.ntmps33
  go_wp2_with (go_at_call 38; refine (mul64 _ _ hx hy _).mono ?_; rintro e w' ⟨rfl, rfl⟩)
  simp [bodyPost, results, Tryd.results33, go_sem]
theorem mul_any (x y : Int) (hx : Word x) (hy : Word y) (w : World) :
    Calls Tryd.prog 33 #[.int .u64 x, .int .u64 y] w fun e w' => e = .returned (.agg #[.int .u64 (hi x y), .int .u64 (lo x y)]) ∧ Below w.heap.size w w' :=
  (mul_at x y hx hy w).mono fun _ _ ⟨h1, h2⟩ => ⟨h1, by rw [← h2]; exact alloc_below _ _⟩

/-- What a sum of wide numbers comes to. -/
def sHi (t : Int) : Int := if t < 340282366920938463463374607431768211456 then t / 18446744073709551616 else 0
def sLo (t : Int) : Int := if t < 340282366920938463463374607431768211456 then t % 18446744073709551616 else 0
def sErr (t : Int) : Int := if t < 340282366920938463463374607431768211456 then 0 else 6

/-- How far from 0. -/
def absI (n : Int) : Int := if n < 0 then -n else n
theorem absI_word {n : Int} (h : Whole n) : Word (absI n) := by
  obtain ⟨h1, h2⟩ := h
  unfold absI Word
  split <;> omega

/-- What is there of a sum, a difference or a product, if it is of 64 bits with a sign. -/
def fitV (s : Int) : Int := if -9223372036854775808 ≤ s ∧ s < 9223372036854775808 then s else 0
def fitE (s : Int) : Int := if -9223372036854775808 ≤ s ∧ s < 9223372036854775808 then 0 else 6

/-- A quotient, rounded down. -/
def flV (a b : Int) : Int := if b < 1 then 0 else a / b
def flE (b : Int) : Int := if b < 1 then 1 else 0

theorem floor_num (a b : Int) (hb : 1 ≤ b) :
    (a.tmod b < 0 → a / b = a.tdiv b - 1) ∧ (¬ a.tmod b < 0 → a / b = a.tdiv b) ∧ (0 ≤ a → 0 ≤ a / b ∧ a / b ≤ a) ∧ (a < 0 → a ≤ a / b ∧ a / b < 0) := by
  refine ⟨fun h => ?_, fun h => ?_, fun h => ⟨Int.ediv_nonneg h (by omega), Int.ediv_le_self _ h⟩, fun h => ?_⟩
  · have ha : a < 0 := by
      rcases Int.lt_or_le a 0 with h' | h'
      · exact h'
      · have := Int.tmod_nonneg b h'; omega
    obtain ⟨c, rfl⟩ : ∃ c, a = -c := ⟨-a, by omega⟩
    have e1 : (-c).tdiv b = -(c / b) := by rw [Int.neg_tdiv, Int.tdiv_eq_ediv_of_nonneg (by omega)]
    have e2 : (-c).tmod b = -(c % b) := by rw [Int.neg_tmod, Int.tmod_eq_emod_of_nonneg (by omega)]
    rw [e1]; rw [e2] at h
    have h3 := Int.mul_ediv_add_emod c b
    have h4 := Int.emod_lt_of_pos c (by omega : 0 < b)
    have : (-c) / b = -(c / b) - 1 ∧ (-c) % b = b - c % b := by
      rw [Int.ediv_emod_unique (by omega)]
      refine ⟨?_, by omega, by omega⟩
      rw [Int.mul_sub, Int.mul_neg]
      omega
    omega
  · rcases Int.lt_or_le a 0 with h' | h'
    · obtain ⟨c, rfl⟩ : ∃ c, a = -c := ⟨-a, by omega⟩
      have e1 : (-c).tdiv b = -(c / b) := by rw [Int.neg_tdiv, Int.tdiv_eq_ediv_of_nonneg (by omega)]
      have e2 : (-c).tmod b = -(c % b) := by rw [Int.neg_tmod, Int.tmod_eq_emod_of_nonneg (by omega)]
      rw [e1]; rw [e2] at h
      have h3 := Int.mul_ediv_add_emod c b
      have h4 := Int.emod_nonneg c (by omega : b ≠ 0)
      have : (-c) / b = -(c / b) ∧ (-c) % b = 0 := by
        rw [Int.ediv_emod_unique (by omega)]
        refine ⟨?_, by omega, by omega⟩
        rw [Int.mul_neg]
        omega
      omega
    · rw [Int.tdiv_eq_ediv_of_nonneg h']
  · refine ⟨?_, Int.ediv_neg_of_neg_of_pos h (by omega)⟩
    rw [Int.le_ediv_iff_mul_le (by omega)]
    have := Int.mul_le_mul_of_nonpos_left (a := a) (by omega) hb
    omega

theorem fitV_yes {s : Int} (h : -9223372036854775808 ≤ s ∧ s < 9223372036854775808) : fitV s = s := if_pos h
theorem fitE_yes {s : Int} (h : -9223372036854775808 ≤ s ∧ s < 9223372036854775808) : fitE s = 0 := if_pos h
theorem fitV_no {s : Int} (h : ¬ (-9223372036854775808 ≤ s ∧ s < 9223372036854775808)) : fitV s = 0 := if_neg h
theorem fitE_no {s : Int} (h : ¬ (-9223372036854775808 ≤ s ∧ s < 9223372036854775808)) : fitE s = 6 := if_neg h

/-- A product's sign. -/
theorem sign_mul (a b : Int) : a * b = if (decide (a < 0) != decide (b < 0)) = true then -(absI a * absI b) else absI a * absI b := by
  unfold absI
  by_cases h1 : a < 0 <;> by_cases h2 : b < 0 <;> simp [h1, h2, Int.neg_mul, Int.mul_neg]


theorem two_below (w : World) (o1 o2 : Obj) (n : Nat) : Below w.heap.size w (((w.alloc o1).alloc o2).drewN n) := by
  have h := ((Below.refl _ w).alloc (Nat.le_refl _) o1).alloc (by simp) o2
  exact ⟨h.os, h.tape, h.output, h.size, h.block⟩

end Go.Proofs.YthfipbmmbhnhiaaDoor
