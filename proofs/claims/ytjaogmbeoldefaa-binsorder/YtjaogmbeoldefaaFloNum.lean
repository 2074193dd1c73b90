/-
  FLOATS OF 64 BITS, BY THEIR BITS: how two that are numbers stand to one another is how their keys stand. No condition but that the bits are 64.
-/
import Derived.Test.YtjaogmbeoldefaaRows
import Derived.WalkKit
import Derived.WalkSpells
import Derived.WalkLawsBesides
import Derived.Lib.Hide
namespace Go.Proofs.Ytjaogmbeoldefaa
open Go.RowKit

/-- Is it no number? -/
def mis (b : Nat) : Prop := 9218868437227405312 < b % 9223372036854775808
instance (b : Nat) : Decidable (mis b) := inferInstanceAs (Decidable (_ < _))
/-- The bits of the clean one. -/
def cln (b : Nat) : Nat := if mis b then 9221120237041090561 else if b % 9223372036854775808 = 0 then 0 else b
/-- The key. -/
def key (b : Nat) : Nat := if mis b then 0 else if b % 9223372036854775808 = 0 then 9223372036854775808 else if 9223372036854775808 ≤ b then 18446744073709551615 - b else b + 9223372036854775808

/-- How great the number of a rung is, in units of the least one. -/
def mag (r : Nat) : Nat := if r < 4503599627370496 then r else (4503599627370496 + r % 4503599627370496) * 2 ^ (r / 4503599627370496 - 1)

theorem mag_lt {r q : Nat} (h : r < q) : mag r < mag q := by
  unfold mag
  by_cases h1 : r < 4503599627370496
  · rw [if_pos h1]
    by_cases h2 : q < 4503599627370496
    · rw [if_pos h2]; exact h
    · rw [if_neg h2]
      have : 0 < 2 ^ (q / 4503599627370496 - 1) := Nat.two_pow_pos _
      have := Nat.le_mul_of_pos_right (4503599627370496 + q % 4503599627370496) this
      omega
  · rw [if_neg h1, if_neg (by omega)]
    by_cases h3 : r / 4503599627370496 = q / 4503599627370496
    · rw [h3]
      exact Nat.mul_lt_mul_of_pos_right (by omega) (Nat.two_pow_pos _)
    · have e : (4503599627370496 + r % 4503599627370496) * 2 ^ (r / 4503599627370496 - 1) < 4503599627370496 * 2 ^ (r / 4503599627370496 - 1 + 1) := by
        have h : (4503599627370496 + r % 4503599627370496) * 2 ^ (r / 4503599627370496 - 1) < 9007199254740992 * 2 ^ (r / 4503599627370496 - 1) := Nat.mul_lt_mul_of_pos_right (by omega) (Nat.two_pow_pos _)
        rw [Nat.pow_succ]
        omega
      have l : 4503599627370496 * 2 ^ (r / 4503599627370496 - 1 + 1) ≤ 4503599627370496 * 2 ^ (q / 4503599627370496 - 1) := Nat.mul_le_mul_left _ (Nat.pow_le_pow_right (by decide) (by omega))
      have m : 4503599627370496 * 2 ^ (q / 4503599627370496 - 1) ≤ (4503599627370496 + q % 4503599627370496) * 2 ^ (q / 4503599627370496 - 1) := Nat.mul_le_mul_right _ (by omega)
      omega

/-- With a sign. -/
def sgn (s : Bool) (n : Nat) : Int := if s then -(n : Int) else n

theorem cmp_mul (x y c : Int) (hc : 0 < c) : compare (x * c) (y * c) = compare x y := by
  rcases Int.lt_trichotomy x y with h | h | h
  · rw [Int.compare_eq_lt.2 h, Int.compare_eq_lt.2 (Int.mul_lt_mul_of_pos_right h hc)]
  · rw [h]; simp
  · rw [Int.compare_eq_gt.2 h, Int.compare_eq_gt.2 (Int.mul_lt_mul_of_pos_right h hc)]

theorem num_order (L : Int) (s t : Bool) (m n : Nat) (p q : Nat) :
    Ieee.Datum.order (.number s m (L + p)) (.number t n (L + q)) = some (compare (sgn s (m * 2 ^ p)) (sgn t (n * 2 ^ q))) := by
  unfold Ieee.Datum.order
  simp only
  congr 1
  have hs : ∀ (s : Bool) (m p b : Nat), b ≤ p → Ieee.signed s m (p - b) * (2 ^ b : Nat) = sgn s (m * 2 ^ p) := by
    intro s m p b hb
    have e : m * 2 ^ (p - b) * 2 ^ b = m * 2 ^ p := by rw [Nat.mul_assoc, ← Nat.pow_add, Nat.sub_add_cancel hb]
    have e' : ((m * 2 ^ (p - b) : Nat) : Int) * ((2 ^ b : Nat) : Int) = ((m * 2 ^ p : Nat) : Int) := by rw [← e]; simp
    unfold Ieee.signed sgn
    rw [Nat.shiftLeft_eq]
    cases s
    · exact e'
    · show -_ * _ = -_
      rw [Int.neg_mul, e']
  have e1 : (L + p - min (L + p) (L + q)).toNat = p - min p q := by omega
  have e2 : (L + q - min (L + p) (L + q)).toNat = q - min p q := by omega
  rw [e1, e2, ← hs s m p (min p q) (Nat.min_le_left ..), ← hs t n q (min p q) (Nat.min_le_right ..)]
  exact (cmp_mul _ _ _ (by exact_mod_cast Nat.two_pow_pos _)).symm

/-- The sign bit. -/
def neg (b : Nat) : Bool := b / 9223372036854775808 % 2 == 1

theorem read_num (b : Nat) (h : b % 9223372036854775808 < 9218868437227405312) :
    ∃ m p : Nat, Ieee.double.read b = .number (neg b) m (Ieee.double.leastPlace + p) ∧ m * 2 ^ p = mag (b % 9223372036854775808) := by
  unfold Ieee.Format.read
  have e1 : Ieee.double.signWeight = 9223372036854775808 := by decide +kernel
  have e2 : Ieee.double.binade = 4503599627370496 := by decide +kernel
  have e3 : Ieee.double.infRung = 9218868437227405312 := by decide +kernel
  simp only [e1, e2, e3]
  unfold mag
  by_cases h1 : b % 9223372036854775808 < 4503599627370496
  · refine ⟨b % 9223372036854775808, 0, ?_, ?_⟩
    · rw [if_pos h1]; simp [neg]
    · rw [if_pos h1]; simp
  · refine ⟨4503599627370496 + b % 9223372036854775808 % 4503599627370496, b % 9223372036854775808 / 4503599627370496 - 1, ?_, ?_⟩
    · rw [if_neg h1, if_pos h]; rfl
    · rw [if_neg h1]
theorem read_inf (b : Nat) (h : b % 9223372036854775808 = 9218868437227405312) : Ieee.double.read b = .infinity (neg b) := by
  unfold Ieee.Format.read
  have e1 : Ieee.double.signWeight = 9223372036854775808 := by decide +kernel
  have e2 : Ieee.double.binade = 4503599627370496 := by decide +kernel
  have e3 : Ieee.double.infRung = 9218868437227405312 := by decide +kernel
  simp only [e1, e2, e3]
  rw [if_neg (by omega), if_neg (by omega), if_pos h]
  rfl
theorem read_nan (b : Nat) (h : mis b) : ∃ t, Ieee.double.read b = .nan (neg b) t := by
  unfold mis at h
  unfold Ieee.Format.read
  have e1 : Ieee.double.signWeight = 9223372036854775808 := by decide +kernel
  have e2 : Ieee.double.binade = 4503599627370496 := by decide +kernel
  have e3 : Ieee.double.infRung = 9218868437227405312 := by decide +kernel
  simp only [e1, e2, e3]
  rw [if_neg (by omega), if_neg (by omega), if_neg (by omega)]
  exact ⟨_, rfl⟩

theorem order_mis1 {a : Nat} (b : Nat) (h : mis a) : Ieee.double.order a b = none := by
  obtain ⟨t, e⟩ := read_nan a h
  unfold Ieee.Format.order
  rw [e]
  rfl
theorem order_mis2 (a : Nat) {b : Nat} (h : mis b) : Ieee.double.order a b = none := by
  obtain ⟨t, e⟩ := read_nan b h
  unfold Ieee.Format.order
  rw [e]
  unfold Ieee.Datum.order
  split <;> simp_all

/-- What stands below, above, beside, by the rungs. -/
theorem order_sgn (a b : Nat) (ha : ¬ mis a) (hb : ¬ mis b) :
    Ieee.double.order a b = some (compare (sgn (neg a) (a % 9223372036854775808)) (sgn (neg b) (b % 9223372036854775808))) := by
  unfold mis at ha hb
  have key : ∀ (s t : Bool) (r q : Nat), compare (sgn s (mag r)) (sgn t (mag q)) = compare (sgn s r) (sgn t q) := by
    intro s t r q
    have m0 : mag 0 = 0 := rfl
    have z1 : 0 < r → 0 < mag r := fun h => by have := mag_lt h; omega
    have z2 : 0 < q → 0 < mag q := fun h => by have := mag_lt h; omega
    rcases Nat.lt_trichotomy r q with h | h | h
    · have := mag_lt h
      cases s <;> cases t <;> simp only [sgn, Bool.false_eq_true, if_false, if_true]
      · rw [Int.compare_eq_lt.2 (by omega), Int.compare_eq_lt.2 (by omega)]
      · rw [Int.compare_eq_gt.2 (by omega), Int.compare_eq_gt.2 (by omega)]
      · rw [Int.compare_eq_lt.2 (by omega), Int.compare_eq_lt.2 (by omega)]
      · rw [Int.compare_eq_gt.2 (by omega), Int.compare_eq_gt.2 (by omega)]
    · subst h
      rcases Nat.eq_zero_or_pos r with h | h
      · subst h; rw [m0]
      · have := z1 h
        cases s <;> cases t <;> simp only [sgn, Bool.false_eq_true, if_false, if_true]
        · rw [Int.compare_eq_eq.2 rfl, Int.compare_eq_eq.2 rfl]
        · rw [Int.compare_eq_gt.2 (by omega), Int.compare_eq_gt.2 (by omega)]
        · rw [Int.compare_eq_lt.2 (by omega), Int.compare_eq_lt.2 (by omega)]
        · rw [Int.compare_eq_eq.2 rfl, Int.compare_eq_eq.2 rfl]
    · have := mag_lt h
      cases s <;> cases t <;> simp only [sgn, Bool.false_eq_true, if_false, if_true]
      · rw [Int.compare_eq_gt.2 (by omega), Int.compare_eq_gt.2 (by omega)]
      · rw [Int.compare_eq_gt.2 (by omega), Int.compare_eq_gt.2 (by omega)]
      · rw [Int.compare_eq_lt.2 (by omega), Int.compare_eq_lt.2 (by omega)]
      · rw [Int.compare_eq_lt.2 (by omega), Int.compare_eq_lt.2 (by omega)]
  unfold Ieee.Format.order
  by_cases h1 : a % 9223372036854775808 = 9218868437227405312
  · rw [read_inf a h1, h1]
    by_cases h2 : b % 9223372036854775808 = 9218868437227405312
    · rw [read_inf b h2, h2]
      cases neg a <;> cases neg b <;> decide +kernel
    · obtain ⟨n, q, e, _⟩ := read_num b (by omega)
      rw [e]
      show some (if neg a = true then Ordering.lt else .gt) = _
      cases neg a <;> cases neg b <;> simp only [sgn, Bool.false_eq_true, if_false, if_true]
      · exact congrArg some (Int.compare_eq_gt.2 (by omega)).symm
      · exact congrArg some (Int.compare_eq_gt.2 (by omega)).symm
      · exact congrArg some (Int.compare_eq_lt.2 (by omega)).symm
      · exact congrArg some (Int.compare_eq_lt.2 (by omega)).symm
  · obtain ⟨m, p, e, hm⟩ := read_num a (by omega)
    rw [e]
    by_cases h2 : b % 9223372036854775808 = 9218868437227405312
    · rw [read_inf b h2, h2]
      show some (if neg b = true then Ordering.gt else .lt) = _
      cases neg a <;> cases neg b <;> simp only [sgn, Bool.false_eq_true, if_false, if_true]
      · exact congrArg some (Int.compare_eq_lt.2 (by omega)).symm
      · exact congrArg some (Int.compare_eq_gt.2 (by omega)).symm
      · exact congrArg some (Int.compare_eq_lt.2 (by omega)).symm
      · exact congrArg some (Int.compare_eq_gt.2 (by omega)).symm
    · obtain ⟨n, q, e', hn⟩ := read_num b (by omega)
      rw [e', num_order, hm, hn, key]

theorem sgn_key (b : Nat) (hb : ¬ mis b) (h : b < 18446744073709551616) :
    (key b : Int) = sgn (neg b) (b % 9223372036854775808) + 9223372036854775808 - (if sgn (neg b) (b % 9223372036854775808) < 0 then 1 else 0) := by
  unfold key sgn neg
  rw [if_neg hb]
  unfold mis at hb
  by_cases h1 : b % 9223372036854775808 = 0
  · rw [if_pos h1, h1]; simp
  · rw [if_neg h1]
    by_cases h2 : 9223372036854775808 ≤ b
    · have e : b / 9223372036854775808 % 2 = 1 := by omega
      have e' : (b / 9223372036854775808 % 2 == 1) = true := by rw [e]; rfl
      rw [if_pos h2, e', if_pos rfl, if_pos (by omega)]
      omega
    · have e : b / 9223372036854775808 % 2 = 0 := by omega
      have e' : (b / 9223372036854775808 % 2 == 1) = false := by rw [e]; rfl
      rw [if_neg h2, e', if_neg (by decide), if_neg (by omega)]
      omega

theorem order_lt {a b : Nat} (ha : ¬ mis a) (hb : ¬ mis b) (h1 : a < 18446744073709551616) (h2 : b < 18446744073709551616) (h : key a < key b) : Ieee.double.order a b = some .lt := by
  have e1 := sgn_key a ha h1
  have e2 := sgn_key b hb h2
  rw [order_sgn a b ha hb, Int.compare_eq_lt.2]
  split at e1 <;> split at e2 <;> omega
theorem order_gt {a b : Nat} (ha : ¬ mis a) (hb : ¬ mis b) (h1 : a < 18446744073709551616) (h2 : b < 18446744073709551616) (h : key b < key a) : Ieee.double.order a b = some .gt := by
  have e1 := sgn_key a ha h1
  have e2 := sgn_key b hb h2
  rw [order_sgn a b ha hb, Int.compare_eq_gt.2]
  split at e1 <;> split at e2 <;> omega
theorem order_eq {a b : Nat} (ha : ¬ mis a) (hb : ¬ mis b) (h1 : a < 18446744073709551616) (h2 : b < 18446744073709551616) (h : key a = key b) : Ieee.double.order a b = some .eq := by
  have e1 := sgn_key a ha h1
  have e2 := sgn_key b hb h2
  rw [order_sgn a b ha hb, Int.compare_eq_eq.2]
  split at e1 <;> split at e2 <;> omega

end Go.Proofs.Ytjaogmbeoldefaa
