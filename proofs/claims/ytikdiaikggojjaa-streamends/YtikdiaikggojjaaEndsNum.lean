/-
  THE NUMBERS OF StreamEnds: what is drawn where each number is 2^64 - 1, and below a power of two. Conditions: n is above 0 and below 2^64.
-/
import Derived.Test.YtikdiaikggojjaaFair
import Derived.Laws.Bits64
import Derived.Laws.Bits64b
namespace Go.Proofs.Ytikdiaikggojjaa
open Go.RowKit

/-- Below a power of two, and there alone, no number less than it is left over. -/
theorem pow_iff (m : Nat) : ∀ n : Nat, 0 < n → n ≤ 2 ^ m → (n &&& (n - 1) = 0 ↔ 2 ^ m % n = 0) := by
  induction m with
  | zero => intro n h0 h1; have : n = 1 := by simp at h1; omega
            subst this; simp
  | succ m ih =>
    intro n h0 h1
    have hd := Nat.and_div_two (a := n) (b := n - 1)
    have hm := Nat.and_mod_two_eq_one (a := n) (b := n - 1)
    rcases Nat.mod_two_eq_zero_or_one n with he | ho
    · obtain ⟨k, rfl⟩ : ∃ k, n = 2 * k := ⟨n / 2, by omega⟩
      have e1 : (2 * k - 1) / 2 = k - 1 := by omega
      have e2 : 2 * k / 2 = k := by omega
      rw [e1, e2] at hd
      have z : (2 * k &&& (2 * k - 1)) = 0 ↔ k &&& (k - 1) = 0 := by omega
      rw [z, ih k (by omega) (by rw [Nat.pow_succ] at h1; omega), Nat.pow_succ, Nat.mul_comm (2 ^ m) 2, Nat.mul_mod_mul_left]
      omega
    · have e1 : (n - 1) / 2 = n / 2 := by omega
      rw [e1, Nat.and_self] at hd
      have z : (n &&& (n - 1)) = 0 ↔ n = 1 := by omega
      rw [z]
      constructor
      · rintro rfl; simp [Nat.mod_one]
      · intro h
        have hdv : n ∣ 2 ^ (m + 1) := Nat.dvd_of_mod_eq_zero h
        have hc : Nat.Coprime n (2 ^ (m + 1)) := Nat.Coprime.pow_right _ (by
          rw [Nat.coprime_comm, Nat.coprime_iff_gcd_eq_one]
          have g1 : Nat.gcd 2 n ∣ 2 := Nat.gcd_dvd_left _ _
          have g2 : Nat.gcd 2 n ∣ n := Nat.gcd_dvd_right _ _
          have g3 : Nat.gcd 2 n ≤ 2 := Nat.le_of_dvd (by decide) g1
          have g4 : Nat.gcd 2 n ≠ 2 := fun e => by rw [e] at g2; omega
          have g5 : 0 < Nat.gcd 2 n := Nat.gcd_pos_of_pos_left _ (by decide)
          omega)
        exact Nat.Coprime.eq_one_of_dvd hc hdv

/-- The law's own test of a power of two. -/
theorem power_iff (n : Int) (h0 : 0 < n) (h1 : n < 18446744073709551616) : (bits .and .u64 n (n - 1) == 0) = decide (18446744073709551616 % n = 0) := by
  obtain ⟨m, rfl⟩ : ∃ m : Nat, n = m := ⟨n.toNat, by omega⟩
  have h := pow_iff 64 m (by omega) (by omega)
  have e2 : (m : Int) - 1 = ((m - 1 : Nat) : Int) := by omega
  rw [e2, bits_and_u64_nat _ _ (by omega) (by omega), Bool.eq_iff_iff, decide_eq_true_iff]
  have e3 : ((18446744073709551616 : Int) % (m : Int) = 0) ↔ (2 ^ 64 % m = 0) := by
    rw [show (18446744073709551616 : Int) = ((2 ^ 64 : Nat) : Int) from rfl, ← Int.natCast_emod]; omega
  rw [e3, ← h]
  simp

def max64 : List Int := List.replicate 70 18446744073709551615
theorem max64_in : All64 max64 := fun x hx => by rw [(List.mem_replicate.1 hx).2]; decide
theorem max64_at (k : Nat) (h : k < 70) : nums max64 k = 18446744073709551615 := by
  unfold nums max64
  rw [List.getD_eq_getElem?_getD, List.getElem?_replicate, if_pos h]; rfl

theorem bad_zero : draw (nums max64) 0 0 = (0, 0, 1) := rfl
theorem bad_power (n : Int) (h0 : 0 < n) (h : 18446744073709551616 % n = 0) : draw (nums max64) n 0 = (n - 1, 1, 0) := by
  have l : lastI n = 18446744073709551615 := by
    rw [lastI_eq n h0]
    have := Int.emod_add_ediv_mul 18446744073709551616 n
    omega
  have e : (18446744073709551615 : Int) % n = n - 1 := by
    rw [show (18446744073709551615 : Int) = (n - 1) + (18446744073709551616 - n) by omega, Int.add_emod, show (18446744073709551616 - n) % n = 0 by rw [Int.sub_emod, h, Int.emod_self]; rfl, Int.add_zero, Int.emod_emod_of_dvd _ (Int.dvd_refl n)]
    exact Int.emod_eq_of_lt (by omega) (by omega)
  unfold draw drawTo
  rw [if_neg (by omega), max64_at 0 (by decide), l, if_pos (by decide), e]
theorem bad_steps (n : Int) (h : ¬ (18446744073709551615 : Int) ≤ lastI n) : ∀ f k, k + f ≤ 70 → drawTo (nums max64) n f k = (0, k + f, 7) := by
  intro f
  induction f with
  | zero => intro k _; rfl
  | succ f ih =>
    intro k hk
    unfold drawTo
    rw [max64_at k (by omega), if_neg h, ih (k + 1) (by omega), show k + 1 + f = k + (f + 1) by omega]
theorem bad_other (n : Int) (h0 : 0 < n) (h : 18446744073709551616 % n ≠ 0) : draw (nums max64) n 0 = (0, 64, 7) := by
  have l : ¬ (18446744073709551615 : Int) ≤ lastI n := by
    rw [lastI_eq n h0]
    have := Int.emod_add_ediv_mul 18446744073709551616 n
    have := Int.emod_nonneg 18446744073709551616 (by omega : n ≠ 0)
    omega
  unfold draw
  rw [if_neg (by omega), bad_steps n l 64 0 (by decide)]

/-- Powers of two below 2^64. -/
theorem pow_in (j : Nat) (hj : j < 64) : (IntKind.u64.wrap (2 ^ j) = ((2 ^ j : Nat) : Int)) ∧ 0 < ((2 ^ j : Nat) : Int) ∧ ((2 ^ j : Nat) : Int) < 18446744073709551616 ∧ 18446744073709551616 % ((2 ^ j : Nat) : Int) = 0 := by
  have a : 2 ^ j < 2 ^ 64 := Nat.pow_lt_pow_right (by decide) hj
  have b : 0 < 2 ^ j := Nat.two_pow_pos j
  have c : 2 ^ 64 % 2 ^ j = 0 := Nat.mod_eq_zero_of_dvd (Nat.pow_dvd_pow 2 (by omega))
  have e : ((2 : Int) ^ j) = ((2 ^ j : Nat) : Int) := by simp
  refine ⟨?_, by omega, by omega, ?_⟩
  · rw [e, IntKind.wrap_u64]; omega
  · rw [show (18446744073709551616 : Int) = ((2 ^ 64 : Nat) : Int) from rfl, ← Int.natCast_emod, c]; rfl
theorem and_mask (n : Int) (h0 : 0 ≤ n) (h1 : n < 18446744073709551616) (j : Nat) (hj : j < 64) : bits .and .u64 n (((2 ^ j : Nat) : Int) - 1) = n % ((2 ^ j : Nat) : Int) := by
  obtain ⟨m, rfl⟩ : ∃ m : Nat, n = m := ⟨n.toNat, by omega⟩
  have b : 0 < 2 ^ j := Nat.two_pow_pos j
  have a : 2 ^ j < 2 ^ 64 := Nat.pow_lt_pow_right (by decide) hj
  have e2 : ((2 ^ j : Nat) : Int) - 1 = ((2 ^ j - 1 : Nat) : Int) := by omega
  rw [e2, bits_and_u64_nat _ _ (by omega) (by omega), Nat.and_two_pow_sub_one_eq_mod, Int.natCast_emod]
theorem good_draw (n : Int) (h1 : n < 18446744073709551616) (j : Nat) (hj : j < 64) : draw (nums [n]) ((2 ^ j : Nat) : Int) 0 = (n % ((2 ^ j : Nat) : Int), 1, 0) := by
  obtain ⟨_, p0, p1, p2⟩ := pow_in j hj
  refine draw_one n _ p0 ?_
  rw [lastI_eq _ p0]
  have := Int.emod_add_ediv_mul 18446744073709551616 ((2 ^ j : Nat) : Int)
  omega
end Go.Proofs.Ytikdiaikggojjaa
