/-
  ProdFloors' walk: a quotient that is rounded down, times what it was divided by, isn't above, and with one more it is. Condition: both are of 64 bits with a sign.
-/
import Derived.Test.YtiagkkehemdkpaaLong
namespace Go.Proofs.Ytiagkkehemdkpaa
open Go.RowKit

/-- What is left, as numbers of 64 bits count it. -/
theorem rest_num (a b : Int) (hb : 1 ≤ b) (hb2 : b < 9223372036854775808) : IntKind.u64.wrap (IntKind.u64.wrap a - IntKind.u64.wrap (IntKind.u64.wrap (a / b) * b)) = a % b := by
  have h1 := Int.mul_ediv_add_emod a b
  have h2 := Int.emod_nonneg a (by omega : b ≠ 0)
  have h3 := Int.emod_lt_of_pos a (by omega : 0 < b)
  simp only [IntKind.wrap_u64]
  rw [Int.mul_emod, Int.emod_emod_of_dvd _ (Int.dvd_refl _), ← Int.mul_emod, ← Int.sub_emod, Int.mul_comm (a / b) b, show a - b * (a / b) = a % b by omega]
  omega

set_option maxHeartbeats 1000000 in
theorem floors_any (a b : Int) (ha : Whole a) (hb : Whole b) (w : World) :
    Calls Try.prog 5 #[.int .i64 a, .int .i64 b] w fun e w' => e = .returned (.bool true) ∧ Below w.heap.size w w' := by
  by_cases h : b < 1
  · have f1 : flV a b = 0 := if_pos h
    have f2 : flE b = 1 := if_pos h
    go_enter Try.func5, Try.ntmps5
    go_wp2_with fail
    refine (floor_any _ _ ha _).mono ?_
    rintro e w1 ⟨rfl, rfl⟩
    rw [f1, f2]
    go_wp2_with fail
    refine (fixed_any _).mono ?_
    rintro e w2 ⟨rfl, b2⟩
    go_wp2_with fail
    go_ret
    exact ⟨rfl, b2⟩
  · have f1 : flV a b = a / b := if_neg h
    have f2 : flE b = 0 := if_neg h
    obtain ⟨_, _, k3, k4⟩ := floor_num a b (by omega)
    have hr := rest_num a b (by omega) hb.2
    have hl : a % b < b := Int.emod_lt_of_pos a (by omega)
    have hwb : IntKind.u64.wrap b = b := by have := hb.2; rw [IntKind.wrap_u64]; omega
    generalize a / b = q at *
    generalize a % b = r at *
    by_cases hz : a < 0
    · have g1 := (k4 hz).2
      clear k3 k4
      go_enter Try.func5, Try.ntmps5
      go_wp2_with fail
      refine (floor_any _ _ ha _).mono ?_
      rintro e w1 ⟨rfl, rfl⟩
      rw [f1, f2]
      go_wp2_with fail
      refine (fixed_any _).mono ?_
      rintro e w2 ⟨rfl, b2⟩
      go_wp2_with fail
      go_ret
      exact ⟨rfl, b2⟩
    · have g1 := (k3 (by omega)).1
      have g2 : decide (a < 0) = false := by simpa using hz
      have g3 : decide (q < 0) = false := by simpa using g1
      clear k3 k4
      go_enter Try.func5, Try.ntmps5
      go_wp2_with fail
      refine (floor_any _ _ ha _).mono ?_
      rintro e w1 ⟨rfl, rfl⟩
      rw [f1, f2]
      go_wp2_with fail
      refine (fixed_any _).mono ?_
      rintro e w2 ⟨rfl, b2⟩
      go_wp2_with fail
      go_ret
      exact ⟨rfl, b2⟩
end Go.Proofs.Ytiagkkehemdkpaa
