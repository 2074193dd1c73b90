/-
  The library's long product, laid at this program. Condition: each number is of 64 bits.
-/
import Derived.Test.YtjaogmbeoldefaaRows
import Derived.WalkKit
import Derived.Shelf.Bits.Mul64
namespace Go.Proofs.Ytjaogmbeoldefaa
open Go.RowKit Go.Shelf
/-- A number of 64 bits. -/
def Word (x : Int) : Prop := 0 ≤ x ∧ x < 18446744073709551616
/-- The library's long product, laid at this program. -/
def laysMul_ren : Go.Shelf.Ren := ⟨fun | 264 => 55 | n => n, fun | 46 => 95 | 53 => 69 | n => n, fun n => n⟩
theorem laysMul : Lays.n264 Try.prog laysMul_ren := {
  mixed := by kernel_rfl
  f264 := Try.func55.trans (congrArg some (by kernel_rfl))
  t46 := Try.underlying95
  a46 := Try.isAgg95
  z46 := Try.sizeOf95
  v46 := Try.zeroValue95
  t53 := Try.underlying69
  a53 := Try.isAgg69
  z53 := Try.sizeOf69
  v53 := Try.zeroValue69 }

/-- The two halves of a product. -/
def hi (x y : Int) : Int := x * y / 18446744073709551616
def lo (x y : Int) : Int := x * y % 18446744073709551616
theorem hi_word {x y : Int} (hx : Word x) (hy : Word y) : Word (hi x y) := by
  have h0 : 0 ≤ x * y := Int.mul_nonneg hx.1 hy.1
  have h1 : x * y ≤ 18446744073709551615 * 18446744073709551615 := Int.mul_le_mul (by have := hx.2; omega) (by have := hy.2; omega) hy.1 (by decide)
  unfold hi
  exact ⟨by omega, by omega⟩
theorem hi_small {x y : Int} (hx : Word x) (hy : Word y) : hi x y ≤ 18446744073709551614 := by
  have h1 : x * y ≤ 18446744073709551615 * 18446744073709551615 := Int.mul_le_mul (by have := hx.2; omega) (by have := hy.2; omega) hy.1 (by decide)
  unfold hi
  omega
theorem lo_word (x y : Int) : Word (lo x y) := by unfold lo; exact ⟨by omega, by omega⟩
theorem hi_lo (x y : Int) : hi x y * 18446744073709551616 + lo x y = x * y := by unfold hi lo; omega

theorem mul64 (x y : Int) (hx : Word x) (hy : Word y) (w : World) :
    Calls Try.prog 55 #[.int .u64 x, .int .u64 y] w fun e w' => e = .returned (.tuple #[.int .u64 (hi x y), .int .u64 (lo x y)]) ∧ w = w' := by
  obtain ⟨x, rfl⟩ := Int.eq_ofNat_of_zero_le hx.1
  obtain ⟨y, rfl⟩ := Int.eq_ofNat_of_zero_le hy.1
  have e1 : ((x * y / 18446744073709551616 : Nat) : Int) = hi x y := by unfold hi; rw [← Int.natCast_mul]; omega
  have e2 : ((x * y % 18446744073709551616 : Nat) : Int) = lo x y := by unfold lo; rw [← Int.natCast_mul]; omega
  have := Any.bits_Mul64 laysMul x y (by have := hx.2; omega) (by have := hy.2; omega) w
  rw [e1, e2] at this
  exact Calls.mono this fun _ _ h => ⟨h.1, h.2.symm⟩
end Go.Proofs.Ytjaogmbeoldefaa
