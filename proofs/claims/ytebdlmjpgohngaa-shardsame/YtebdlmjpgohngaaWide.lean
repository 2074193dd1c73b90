/-
  THE SMALL ARITHMETIC OF prod: math/bits' sum with carry and long product, cmp.Compare at uint64, and prod's own functions, each as what it answers over whole numbers. Condition: each number is of 64 bits.
-/
import Derived.Test.YtebdlmjpgohngaaRows
import Derived.WalkKit
import Derived.WalkSpells
import Derived.WalkLawsBesides
import Derived.Lib.Hide
import Derived.Shelf.Bits.Mul64
import Derived.Laws.Externs
import Derived.Handy
import Derived.Deep.QuietTactic
import Derived.BigQuiet
import Derived.Deep.RegionHeld3
namespace Go.Proofs.Ytebdlmjpgohngaa
open Go.RowKit Go.Shelf

/-- A number of 64 bits. -/
def Word (x : Int) : Prop := 0 ≤ x ∧ x < 18446744073709551616
/-- Of 64 bits, with a sign. -/
def Whole (x : Int) : Prop := -9223372036854775808 ≤ x ∧ x < 9223372036854775808

/-- How two numbers stand to one another. -/
def cmpI (x y : Int) : Int := if x < y then -1 else if y < x then 1 else 0
theorem cmpI_lt {x y : Int} (h : x < y) : cmpI x y = -1 := if_pos h
theorem cmpI_gt {x y : Int} (h : y < x) : cmpI x y = 1 := by unfold cmpI; rw [if_neg (by omega), if_pos h]
theorem cmpI_eq {x y : Int} (h : x = y) : cmpI x y = 0 := by unfold cmpI; rw [if_neg (by omega), if_neg (by omega)]

/-- The library's long product, laid at this program. -/
def laysMul_ren : Go.Shelf.Ren := ⟨fun | 264 => 71 | n => n, fun | 46 => 120 | 53 => 99 | n => n, fun n => n⟩
theorem laysMul : Lays.n264 Try.prog laysMul_ren := {
  mixed := by kernel_rfl
  f264 := Try.func71.trans (congrArg some (by kernel_rfl))
  t46 := Try.underlying120
  a46 := Try.isAgg120
  z46 := Try.sizeOf120
  v46 := Try.zeroValue120
  t53 := Try.underlying99
  a53 := Try.isAgg99
  z53 := Try.sizeOf99
  v53 := Try.zeroValue99 }

/-- The two halves of a product. -/
def hi (x y : Int) : Int := x * y / 18446744073709551616
def lo (x y : Int) : Int := x * y % 18446744073709551616
theorem hi_word {x y : Int} (hx : Word x) (hy : Word y) : Word (hi x y) := by
  have h0 : 0 ≤ x * y := Int.mul_nonneg hx.1 hy.1
  have h1 : x * y ≤ 18446744073709551615 * 18446744073709551615 := Int.mul_le_mul (by have := hx.2; omega) (by have := hy.2; omega) hy.1 (by decide)
  unfold hi
  exact ⟨by omega, by omega⟩
theorem hi_small {x y : Int} (hx : Word x) (hy : Word y) : hi x y ≤ 18446744073709551614 := by
  have h1 : x * y ≤ 18446744073709551615 * 18446744073709551615 := Int.mul_le_mul (by have := hx.2; omega) (by have := hy.2; omega) hy.1 (by decide)
  unfold hi
  omega
theorem lo_word (x y : Int) : Word (lo x y) := by unfold lo; exact ⟨by omega, by omega⟩
theorem hi_lo (x y : Int) : hi x y * 18446744073709551616 + lo x y = x * y := by unfold hi lo; omega

theorem mul64 (x y : Int) (hx : Word x) (hy : Word y) (w : World) :
    Calls Try.prog 71 #[.int .u64 x, .int .u64 y] w fun e w' => e = .returned (.tuple #[.int .u64 (hi x y), .int .u64 (lo x y)]) ∧ w = w' := by
  obtain ⟨x, rfl⟩ := Int.eq_ofNat_of_zero_le hx.1
  obtain ⟨y, rfl⟩ := Int.eq_ofNat_of_zero_le hy.1
  have e1 : ((x * y / 18446744073709551616 : Nat) : Int) = hi x y := by unfold hi; rw [← Int.natCast_mul]; omega
  have e2 : ((x * y % 18446744073709551616 : Nat) : Int) = lo x y := by unfold lo; rw [← Int.natCast_mul]; omega
  have := Any.bits_Mul64 laysMul x y (by have := hx.2; omega) (by have := hy.2; omega) w
  rw [e1, e2] at this
  exact Calls.mono this fun _ _ h => ⟨h.1, h.2.symm⟩

theorem alloc_below (w : World) (o : Obj) : Below w.heap.size w (w.alloc o) := (Below.refl _ w).alloc (Nat.le_refl _) o

theorem mul_at (x y : Int) (hx : Word x) (hy : Word y) (w : World) :
    Calls Try.prog 67 #[.int .u64 x, .int .u64 y] w fun e w' => e = .returned (.agg #[.int .u64 (hi x y), .int .u64 (lo x y)]) ∧ w.alloc (.cells #[.int .u64 (hi x y), .int .u64 (lo x y)] 113) = w' := by
  go_enter Try.func67, Try.ntmps67
  go_wp2_with (go_at_call 71; refine (mul64 _ _ hx hy _).mono ?_; rintro e w' ⟨rfl, rfl⟩)
  simp [bodyPost, results, Try.results67, go_sem]
theorem mul_any (x y : Int) (hx : Word x) (hy : Word y) (w : World) :
    Calls Try.prog 67 #[.int .u64 x, .int .u64 y] w fun e w' => e = .returned (.agg #[.int .u64 (hi x y), .int .u64 (lo x y)]) ∧ Below w.heap.size w w' :=
  (mul_at x y hx hy w).mono fun _ _ ⟨h1, h2⟩ => ⟨h1, by rw [← h2]; exact alloc_below _ _⟩

/-- What a sum of wide numbers comes to. -/
def sHi (t : Int) : Int := if t < 340282366920938463463374607431768211456 then t / 18446744073709551616 else 0
def sLo (t : Int) : Int := if t < 340282366920938463463374607431768211456 then t % 18446744073709551616 else 0
def sErr (t : Int) : Int := if t < 340282366920938463463374607431768211456 then 0 else 6

/-- How far from 0. -/
def absI (n : Int) : Int := if n < 0 then -n else n
theorem absI_word {n : Int} (h : Whole n) : Word (absI n) := by
  obtain ⟨h1, h2⟩ := h
  unfold absI Word
  split <;> omega

theorem size_any (n : Int) (h : Whole n) (w : World) : Calls Try.prog 68 #[.int .i64 n] w fun e w' => e = .returned (.int .u64 (absI n)) ∧ w = w' := by
  obtain ⟨h1, h2⟩ := h
  by_cases hn : n < 0
  · have HE : Hid (IntKind.u64.wrap (-IntKind.u64.wrap n) = absI n) := by
      show _ = _; unfold absI; rw [if_pos hn, IntKind.wrap_u64, IntKind.wrap_u64]; omega
    go_enter Try.func68, Try.ntmps68
    go_wp2
    go_ret
    exact ⟨congrArg (fun x => Ending.returned (Value.int .u64 x)) HE.out, rfl⟩
  · have HE : Hid (n = absI n) := by
      show _ = _; unfold absI; rw [if_neg hn]
    go_enter Try.func68, Try.ntmps68
    go_wp2
    go_ret
    exact ⟨congrArg (fun x => Ending.returned (Value.int .u64 x)) HE.out, rfl⟩

/-- What is there of a sum, a difference or a product, if it is of 64 bits with a sign. -/
def fitV (s : Int) : Int := if -9223372036854775808 ≤ s ∧ s < 9223372036854775808 then s else 0
def fitE (s : Int) : Int := if -9223372036854775808 ≤ s ∧ s < 9223372036854775808 then 0 else 6

theorem plus_any (a b : Int) (ha : Whole a) (hb : Whole b) (w : World) :
    Calls Try.prog 54 #[.int .i64 a, .int .i64 b] w fun e w' => e = .returned (.tuple #[.int .i64 (fitV (a + b)), .int .i64 (fitE (a + b))]) ∧ w = w' := by
  obtain ⟨a1, a2⟩ := ha; obtain ⟨b1, b2⟩ := hb
  by_cases hf : -9223372036854775808 ≤ a + b ∧ a + b < 9223372036854775808
  · have HV : Hid (fitV (a + b) = a + b) := if_pos hf
    have HE : Hid (fitE (a + b) = 0) := if_pos hf
    have hw : IntKind.i64.wrap (a + b) = a + b := by rw [IntKind.wrap_i64]; omega
    rw [HV.out, HE.out]
    by_cases hb : 0 < b
    · have g1 : a < a + b := by omega
      go_enter Try.func54, Try.ntmps54
      go_wp2
      go_ret2
      exact ⟨rfl, rfl⟩
    · have g1 : ¬ a < a + b := by omega
      go_enter Try.func54, Try.ntmps54
      go_wp2
      go_ret2
      exact ⟨rfl, rfl⟩
  · have HV : Hid (fitV (a + b) = 0) := if_neg hf
    have HE : Hid (fitE (a + b) = 6) := if_neg hf
    rw [HV.out, HE.out]
    obtain ⟨s, hs⟩ : ∃ s, IntKind.i64.wrap (a + b) = s := ⟨_, rfl⟩
    by_cases hb : 0 < b
    · have g1 : ¬ a < s := by rw [← hs, IntKind.wrap_i64]; omega
      go_enter Try.func54, Try.ntmps54
      go_wp2
      go_ret2
      exact ⟨rfl, rfl⟩
    · have g1 : a < s := by rw [← hs, IntKind.wrap_i64]; omega
      go_enter Try.func54, Try.ntmps54
      go_wp2
      go_ret2
      exact ⟨rfl, rfl⟩

/-- A quotient, rounded down. -/
def flV (a b : Int) : Int := if b < 1 then 0 else a / b
def flE (b : Int) : Int := if b < 1 then 1 else 0

theorem floor_num (a b : Int) (hb : 1 ≤ b) :
    (a.tmod b < 0 → a / b = a.tdiv b - 1) ∧ (¬ a.tmod b < 0 → a / b = a.tdiv b) ∧ (0 ≤ a → 0 ≤ a / b ∧ a / b ≤ a) ∧ (a < 0 → a ≤ a / b ∧ a / b < 0) := by
  refine ⟨fun h => ?_, fun h => ?_, fun h => ⟨Int.ediv_nonneg h (by omega), Int.ediv_le_self _ h⟩, fun h => ?_⟩
  · have ha : a < 0 := by
      rcases Int.lt_or_le a 0 with h' | h'
      · exact h'
      · have := Int.tmod_nonneg b h'; omega
    obtain ⟨c, rfl⟩ : ∃ c, a = -c := ⟨-a, by omega⟩
    have e1 : (-c).tdiv b = -(c / b) := by rw [Int.neg_tdiv, Int.tdiv_eq_ediv_of_nonneg (by omega)]
    have e2 : (-c).tmod b = -(c % b) := by rw [Int.neg_tmod, Int.tmod_eq_emod_of_nonneg (by omega)]
    rw [e1]; rw [e2] at h
    have h3 := Int.mul_ediv_add_emod c b
    have h4 := Int.emod_lt_of_pos c (by omega : 0 < b)
    have : (-c) / b = -(c / b) - 1 ∧ (-c) % b = b - c % b := by
      rw [Int.ediv_emod_unique (by omega)]
      refine ⟨?_, by omega, by omega⟩
      rw [Int.mul_sub, Int.mul_neg]
      omega
    omega
  · rcases Int.lt_or_le a 0 with h' | h'
    · obtain ⟨c, rfl⟩ : ∃ c, a = -c := ⟨-a, by omega⟩
      have e1 : (-c).tdiv b = -(c / b) := by rw [Int.neg_tdiv, Int.tdiv_eq_ediv_of_nonneg (by omega)]
      have e2 : (-c).tmod b = -(c % b) := by rw [Int.neg_tmod, Int.tmod_eq_emod_of_nonneg (by omega)]
      rw [e1]; rw [e2] at h
      have h3 := Int.mul_ediv_add_emod c b
      have h4 := Int.emod_nonneg c (by omega : b ≠ 0)
      have : (-c) / b = -(c / b) ∧ (-c) % b = 0 := by
        rw [Int.ediv_emod_unique (by omega)]
        refine ⟨?_, by omega, by omega⟩
        rw [Int.mul_neg]
        omega
      omega
    · rw [Int.tdiv_eq_ediv_of_nonneg h']
  · refine ⟨?_, Int.ediv_neg_of_neg_of_pos h (by omega)⟩
    rw [Int.le_ediv_iff_mul_le (by omega)]
    have := Int.mul_le_mul_of_nonpos_left (a := a) (by omega) hb
    omega

theorem room_yes (w : World) : Calls Try.prog 69 #[.bool true] w fun e w' => e = .returned (.int .u64 9223372036854775808) ∧ w' = w := by
  go_enter Try.func69, Try.ntmps69
  go_wp2
  go_ret
  exact ⟨rfl, rfl⟩
theorem room_no (w : World) : Calls Try.prog 69 #[.bool false] w fun e w' => e = .returned (.int .u64 9223372036854775807) ∧ w' = w := by
  go_enter Try.func69, Try.ntmps69
  go_wp2
  go_ret
  exact ⟨rfl, rfl⟩

theorem fitV_yes {s : Int} (h : -9223372036854775808 ≤ s ∧ s < 9223372036854775808) : fitV s = s := if_pos h
theorem fitE_yes {s : Int} (h : -9223372036854775808 ≤ s ∧ s < 9223372036854775808) : fitE s = 0 := if_pos h
theorem fitV_no {s : Int} (h : ¬ (-9223372036854775808 ≤ s ∧ s < 9223372036854775808)) : fitV s = 0 := if_neg h
theorem fitE_no {s : Int} (h : ¬ (-9223372036854775808 ≤ s ∧ s < 9223372036854775808)) : fitE s = 6 := if_neg h

/-- A product's sign. -/
theorem sign_mul (a b : Int) : a * b = if (decide (a < 0) != decide (b < 0)) = true then -(absI a * absI b) else absI a * absI b := by
  unfold absI
  by_cases h1 : a < 0 <;> by_cases h2 : b < 0 <;> simp [h1, h2, Int.neg_mul, Int.mul_neg]


theorem two_below (w : World) (o1 o2 : Obj) (n : Nat) : Below w.heap.size w (((w.alloc o1).alloc o2).drewN n) := by
  have h := ((Below.refl _ w).alloc (Nat.le_refl _) o1).alloc (by simp) o2
  exact ⟨h.os, h.tape, h.output, h.size, h.block⟩

/-- Where the product is of 64 bits. -/
theorem product_in (a b : Int) (ha : Whole a) (hb : Whole b) (hh : hi (absI a) (absI b) = 0) (w : World) :
    Calls Try.prog 62 #[.int .i64 a, .int .i64 b] w fun e w' => e = .returned (.tuple #[.int .i64 (fitV (a * b)), .int .i64 (fitE (a * b))]) ∧ Below w.heap.size w w' := by
  have hX := absI_word ha
  have hY := absI_word hb
  have HS := Lib.hid (sign_mul a b)
  have HL := Lib.hid (hi_lo (absI a) (absI b))
  obtain ⟨l1, l2⟩ := lo_word (absI a) (absI b)
  generalize hP : a * b = P at *
  clear hP
  cases h1 : decide (a < 0) <;> cases h2 : decide (b < 0)
  all_goals
    have e := HS.out
    have f := HL.out
    rw [h1, h2] at e
    rw [hh] at f
    simp at e
    clear HS HL
  · by_cases h3 : 9223372036854775807 < lo (absI a) (absI b)
    · have HN : Hid (¬ (-9223372036854775808 ≤ P ∧ P < 9223372036854775808)) := by show ¬ _; omega
      rw [fitV_no HN.out, fitE_no HN.out]
      clear e f HN
      go_enter Try.func62, Try.ntmps62
      go_wp2_with (first
        | (go_at_call 68; refine (size_any _ (by assumption) _).mono ?_; rintro e w' ⟨rfl, rfl⟩)
        | (go_at_call 67; refine (mul_at _ _ hX hY _).mono ?_; rintro e w1 ⟨rfl, rfl⟩))
      go_quiet ((go_at_call 69; exact Calls.quiet_of_same (room_no _)))
      go_wp2
      go_ret2
      exact ⟨rfl, two_below _ _ _ _⟩
    · have HN : Hid (-9223372036854775808 ≤ P ∧ P < 9223372036854775808) := by show _ ∧ _; omega
      rw [fitV_yes HN.out, fitE_yes HN.out]
      have HP : Hid (P = lo (absI a) (absI b)) := by show _ = _; omega
      clear e f HN
      go_enter Try.func62, Try.ntmps62
      go_wp2_with (first
        | (go_at_call 68; refine (size_any _ (by assumption) _).mono ?_; rintro e w' ⟨rfl, rfl⟩)
        | (go_at_call 67; refine (mul_at _ _ hX hY _).mono ?_; rintro e w1 ⟨rfl, rfl⟩))
      go_quiet ((go_at_call 69; exact Calls.quiet_of_same (room_no _)))
      go_wp2
      go_ret2
      exact ⟨by rw [HP.out]; rfl, two_below _ _ _ _⟩
  · by_cases h3 : 9223372036854775808 < lo (absI a) (absI b)
    · have HN : Hid (¬ (-9223372036854775808 ≤ P ∧ P < 9223372036854775808)) := by show ¬ _; omega
      rw [fitV_no HN.out, fitE_no HN.out]
      clear e f HN
      go_enter Try.func62, Try.ntmps62
      go_wp2_with (first
        | (go_at_call 68; refine (size_any _ (by assumption) _).mono ?_; rintro e w' ⟨rfl, rfl⟩)
        | (go_at_call 67; refine (mul_at _ _ hX hY _).mono ?_; rintro e w1 ⟨rfl, rfl⟩))
      go_quiet ((go_at_call 69; exact Calls.quiet_of_same (room_yes _)))
      go_wp2
      go_ret2
      exact ⟨rfl, two_below _ _ _ _⟩
    · have HN : Hid (-9223372036854775808 ≤ P ∧ P < 9223372036854775808) := by show _ ∧ _; omega
      rw [fitV_yes HN.out, fitE_yes HN.out]
      have HP : Hid (P = -lo (absI a) (absI b)) := by show _ = _; omega
      have HW : Hid (wrap64 (IntKind.u64.wrap (-lo (absI a) (absI b))) = -lo (absI a) (absI b)) := by show _ = _; rw [IntKind.wrap_u64]; unfold wrap64; omega
      clear e f HN
      go_enter Try.func62, Try.ntmps62
      go_wp2_with (first
        | (go_at_call 68; refine (size_any _ (by assumption) _).mono ?_; rintro e w' ⟨rfl, rfl⟩)
        | (go_at_call 67; refine (mul_at _ _ hX hY _).mono ?_; rintro e w1 ⟨rfl, rfl⟩))
      go_quiet ((go_at_call 69; exact Calls.quiet_of_same (room_yes _)))
      go_wp2
      go_ret2
      exact ⟨congrArg (fun x => Ending.returned (.tuple #[.int .i64 x, .int .i64 0])) (HW.out.trans HP.out.symm), two_below _ _ _ _⟩
  · by_cases h3 : 9223372036854775808 < lo (absI a) (absI b)
    · have HN : Hid (¬ (-9223372036854775808 ≤ P ∧ P < 9223372036854775808)) := by show ¬ _; omega
      rw [fitV_no HN.out, fitE_no HN.out]
      clear e f HN
      go_enter Try.func62, Try.ntmps62
      go_wp2_with (first
        | (go_at_call 68; refine (size_any _ (by assumption) _).mono ?_; rintro e w' ⟨rfl, rfl⟩)
        | (go_at_call 67; refine (mul_at _ _ hX hY _).mono ?_; rintro e w1 ⟨rfl, rfl⟩))
      go_quiet ((go_at_call 69; exact Calls.quiet_of_same (room_yes _)))
      go_wp2
      go_ret2
      exact ⟨rfl, two_below _ _ _ _⟩
    · have HN : Hid (-9223372036854775808 ≤ P ∧ P < 9223372036854775808) := by show _ ∧ _; omega
      rw [fitV_yes HN.out, fitE_yes HN.out]
      have HP : Hid (P = -lo (absI a) (absI b)) := by show _ = _; omega
      have HW : Hid (wrap64 (IntKind.u64.wrap (-lo (absI a) (absI b))) = -lo (absI a) (absI b)) := by show _ = _; rw [IntKind.wrap_u64]; unfold wrap64; omega
      clear e f HN
      go_enter Try.func62, Try.ntmps62
      go_wp2_with (first
        | (go_at_call 68; refine (size_any _ (by assumption) _).mono ?_; rintro e w' ⟨rfl, rfl⟩)
        | (go_at_call 67; refine (mul_at _ _ hX hY _).mono ?_; rintro e w1 ⟨rfl, rfl⟩))
      go_quiet ((go_at_call 69; exact Calls.quiet_of_same (room_yes _)))
      go_wp2
      go_ret2
      exact ⟨congrArg (fun x => Ending.returned (.tuple #[.int .i64 x, .int .i64 0])) (HW.out.trans HP.out.symm), two_below _ _ _ _⟩
  · by_cases h3 : 9223372036854775807 < lo (absI a) (absI b)
    · have HN : Hid (¬ (-9223372036854775808 ≤ P ∧ P < 9223372036854775808)) := by show ¬ _; omega
      rw [fitV_no HN.out, fitE_no HN.out]
      clear e f HN
      go_enter Try.func62, Try.ntmps62
      go_wp2_with (first
        | (go_at_call 68; refine (size_any _ (by assumption) _).mono ?_; rintro e w' ⟨rfl, rfl⟩)
        | (go_at_call 67; refine (mul_at _ _ hX hY _).mono ?_; rintro e w1 ⟨rfl, rfl⟩))
      go_quiet ((go_at_call 69; exact Calls.quiet_of_same (room_no _)))
      go_wp2
      go_ret2
      exact ⟨rfl, two_below _ _ _ _⟩
    · have HN : Hid (-9223372036854775808 ≤ P ∧ P < 9223372036854775808) := by show _ ∧ _; omega
      rw [fitV_yes HN.out, fitE_yes HN.out]
      have HP : Hid (P = lo (absI a) (absI b)) := by show _ = _; omega
      clear e f HN
      go_enter Try.func62, Try.ntmps62
      go_wp2_with (first
        | (go_at_call 68; refine (size_any _ (by assumption) _).mono ?_; rintro e w' ⟨rfl, rfl⟩)
        | (go_at_call 67; refine (mul_at _ _ hX hY _).mono ?_; rintro e w1 ⟨rfl, rfl⟩))
      go_quiet ((go_at_call 69; exact Calls.quiet_of_same (room_no _)))
      go_wp2
      go_ret2
      exact ⟨by rw [HP.out]; rfl, two_below _ _ _ _⟩

theorem product_any (a b : Int) (ha : Whole a) (hb : Whole b) (w : World) :
    Calls Try.prog 62 #[.int .i64 a, .int .i64 b] w fun e w' => e = .returned (.tuple #[.int .i64 (fitV (a * b)), .int .i64 (fitE (a * b))]) ∧ Below w.heap.size w w' := by
  by_cases hh : hi (absI a) (absI b) = 0
  · exact product_in a b ha hb hh w
  · have hX := absI_word ha
    have hY := absI_word hb
    have HN : Hid (¬ (-9223372036854775808 ≤ a * b ∧ a * b < 9223372036854775808)) := by
      have e := sign_mul a b
      have f := hi_lo (absI a) (absI b)
      have g := hi_word hX hY
      have l := lo_word (absI a) (absI b)
      unfold Word at g l
      show ¬ _
      split at e <;> omega
    rw [fitV_no HN.out, fitE_no HN.out]
    clear HN
    cases h1 : decide (a < 0) <;> cases h2 : decide (b < 0)
    all_goals
      go_enter Try.func62, Try.ntmps62
      go_wp2_with (first
        | (go_at_call 68; refine (size_any _ (by assumption) _).mono ?_; rintro e w' ⟨rfl, rfl⟩)
        | (go_at_call 67; refine (mul_at _ _ hX hY _).mono ?_; rintro e w1 ⟨rfl, rfl⟩))
      go_quiet (fail)
      go_wp2
      go_ret2
      exact ⟨rfl, two_below _ _ _ _⟩
end Go.Proofs.Ytebdlmjpgohngaa
