/-
  THE SMALL ARITHMETIC OF prod: math/bits' sum with carry and long product, cmp.Compare at uint64, and prod's own functions, each as what it answers over whole numbers. Condition: each number is of 64 bits.
-/
import Derived.Test.YtiagkkehemdkpaaRows
import Derived.WalkKit
import Derived.WalkSpells
import Derived.WalkLawsBesides
import Derived.Lib.Hide
import Derived.Shelf.Bits.Mul64
import Derived.Laws.Externs
import Derived.Handy
import Derived.Deep.QuietTactic
import Derived.BigQuiet
import Derived.Deep.RegionHeld3
namespace Go.Proofs.Ytiagkkehemdkpaa
open Go.RowKit Go.Shelf

/-- A number of 64 bits. -/
def Word (x : Int) : Prop := 0 ≤ x ∧ x < 18446744073709551616
/-- Of 64 bits, with a sign. -/
def Whole (x : Int) : Prop := -9223372036854775808 ≤ x ∧ x < 9223372036854775808

/-- How two numbers stand to one another. -/
def cmpI (x y : Int) : Int := if x < y then -1 else if y < x then 1 else 0
theorem cmpI_lt {x y : Int} (h : x < y) : cmpI x y = -1 := if_pos h
theorem cmpI_gt {x y : Int} (h : y < x) : cmpI x y = 1 := by unfold cmpI; rw [if_neg (by omega), if_pos h]
theorem cmpI_eq {x y : Int} (h : x = y) : cmpI x y = 0 := by unfold cmpI; rw [if_neg (by omega), if_neg (by omega)]

theorem add64 (x y c : Int) (hx : 0 ≤ x) (hy : 0 ≤ y) (hc0 : 0 ≤ c) (hc : c ≤ 1) (w : World) : (callFunc 29 #[.int .u64 x, .int .u64 y, .int .u64 c]).run Try.prog w =
    .ok (.value (.tuple #[.int .u64 ((x + y + c) % 18446744073709551616), .int .u64 ((x + y + c) / 18446744073709551616)])) w := by
  rw [run_callFunc_extern Try.func29 (by kernel_rfl) (by kernel_rfl) (by kernel_rfl) (e := add64Entry) (by kernel_rfl), run_add64 x y c hx hy hc0 hc]
  simp only [Result.andThen]
theorem add64_0 (x y : Int) (hx : 0 ≤ x) (hy : 0 ≤ y) (w : World) : (callFunc 29 #[.int .u64 x, .int .u64 y, .int .u64 0]).run Try.prog w =
    .ok (.value (.tuple #[.int .u64 ((x + y) % 18446744073709551616), .int .u64 ((x + y) / 18446744073709551616)])) w := by
  simpa using add64 x y 0 hx hy (Int.le_refl 0) (by decide) w

/-- The library's long product, laid at this program. -/
def laysMul_ren : Go.Shelf.Ren := ⟨fun | 264 => 33 | n => n, fun | 46 => 57 | 53 => 22 | n => n, fun n => n⟩
theorem laysMul : Lays.n264 Try.prog laysMul_ren := {
  mixed := by kernel_rfl
  f264 := Try.func33.trans (congrArg some (by kernel_rfl))
  t46 := Try.underlying57
  a46 := Try.isAgg57
  z46 := Try.sizeOf57
  v46 := Try.zeroValue57
  t53 := Try.underlying22
  a53 := Try.isAgg22
  z53 := Try.sizeOf22
  v53 := Try.zeroValue22 }

/-- The two halves of a product. -/
def hi (x y : Int) : Int := x * y / 18446744073709551616
def lo (x y : Int) : Int := x * y % 18446744073709551616
theorem hi_word {x y : Int} (hx : Word x) (hy : Word y) : Word (hi x y) := by
  have h0 : 0 ≤ x * y := Int.mul_nonneg hx.1 hy.1
  have h1 : x * y ≤ 18446744073709551615 * 18446744073709551615 := Int.mul_le_mul (by have := hx.2; omega) (by have := hy.2; omega) hy.1 (by decide)
  unfold hi
  exact ⟨by omega, by omega⟩
theorem hi_small {x y : Int} (hx : Word x) (hy : Word y) : hi x y ≤ 18446744073709551614 := by
  have h1 : x * y ≤ 18446744073709551615 * 18446744073709551615 := Int.mul_le_mul (by have := hx.2; omega) (by have := hy.2; omega) hy.1 (by decide)
  unfold hi
  omega
theorem lo_word (x y : Int) : Word (lo x y) := by unfold lo; exact ⟨by omega, by omega⟩
theorem hi_lo (x y : Int) : hi x y * 18446744073709551616 + lo x y = x * y := by unfold hi lo; omega

theorem mul64 (x y : Int) (hx : Word x) (hy : Word y) (w : World) :
    Calls Try.prog 33 #[.int .u64 x, .int .u64 y] w fun e w' => e = .returned (.tuple #[.int .u64 (hi x y), .int .u64 (lo x y)]) ∧ w = w' := by
  obtain ⟨x, rfl⟩ := Int.eq_ofNat_of_zero_le hx.1
  obtain ⟨y, rfl⟩ := Int.eq_ofNat_of_zero_le hy.1
  have e1 : ((x * y / 18446744073709551616 : Nat) : Int) = hi x y := by unfold hi; rw [← Int.natCast_mul]; omega
  have e2 : ((x * y % 18446744073709551616 : Nat) : Int) = lo x y := by unfold lo; rw [← Int.natCast_mul]; omega
  have := Any.bits_Mul64 laysMul x y (by have := hx.2; omega) (by have := hy.2; omega) w
  rw [e1, e2] at this
  exact Calls.mono this fun _ _ h => ⟨h.1, h.2.symm⟩

theorem nan_any (x : Int) (w : World) : Calls Try.prog 41 #[.int .u64 x] w fun e w' => e = .returned (.bool false) ∧ w = w' := by
  go_enter Try.func41, Try.ntmps41
  go_wp2
  go_ret
  exact ⟨by simp, rfl⟩

theorem compare_any (x y : Int) (w : World) : Calls Try.prog 36 #[.int .u64 x, .int .u64 y] w fun e w' => e = .returned (.int .i64 (cmpI x y)) ∧ w = w' := by
  rcases Int.lt_trichotomy x y with h | h | h
  · have HC := Lib.hid (cmpI_lt h)
    go_enter Try.func36, Try.ntmps36
    go_wp2_with (go_at_call 41; refine (nan_any _ _).mono ?_; rintro e w' ⟨rfl, rfl⟩)
    go_ret
    exact ⟨by rw [HC.out]; rfl, rfl⟩
  · have HC := Lib.hid (cmpI_eq h)
    subst h
    go_enter Try.func36, Try.ntmps36
    go_wp2_with (go_at_call 41; refine (nan_any _ _).mono ?_; rintro e w' ⟨rfl, rfl⟩)
    go_ret
    exact ⟨by rw [HC.out]; rfl, rfl⟩
  · have HC := Lib.hid (cmpI_gt h)
    go_enter Try.func36, Try.ntmps36
    go_wp2_with (go_at_call 41; refine (nan_any _ _).mono ?_; rintro e w' ⟨rfl, rfl⟩)
    go_ret
    exact ⟨by rw [HC.out]; rfl, rfl⟩

theorem alloc_below (w : World) (o : Obj) : Below w.heap.size w (w.alloc o) := (Below.refl _ w).alloc (Nat.le_refl _) o

theorem mul_at (x y : Int) (hx : Word x) (hy : Word y) (w : World) :
    Calls Try.prog 12 #[.int .u64 x, .int .u64 y] w fun e w' => e = .returned (.agg #[.int .u64 (hi x y), .int .u64 (lo x y)]) ∧ w.alloc (.cells #[.int .u64 (hi x y), .int .u64 (lo x y)] 24) = w' := by
  go_enter Try.func12, Try.ntmps12
  go_wp2_with (go_at_call 33; refine (mul64 _ _ hx hy _).mono ?_; rintro e w' ⟨rfl, rfl⟩)
  simp [bodyPost, results, Try.results12, go_sem]
theorem mul_any (x y : Int) (hx : Word x) (hy : Word y) (w : World) :
    Calls Try.prog 12 #[.int .u64 x, .int .u64 y] w fun e w' => e = .returned (.agg #[.int .u64 (hi x y), .int .u64 (lo x y)]) ∧ Below w.heap.size w w' :=
  (mul_at x y hx hy w).mono fun _ _ ⟨h1, h2⟩ => ⟨h1, by rw [← h2]; exact alloc_below _ _⟩

/-- What a sum of wide numbers comes to. -/
def sHi (t : Int) : Int := if t < 340282366920938463463374607431768211456 then t / 18446744073709551616 else 0
def sLo (t : Int) : Int := if t < 340282366920938463463374607431768211456 then t % 18446744073709551616 else 0
def sErr (t : Int) : Int := if t < 340282366920938463463374607431768211456 then 0 else 6

theorem add_any (ah al bh bl : Int) (h1 : Word ah) (h2 : Word al) (h3 : Word bh) (h4 : Word bl) (w : World) :
    Calls Try.prog 8 #[.agg #[.int .u64 ah, .int .u64 al], .agg #[.int .u64 bh, .int .u64 bl]] w fun e w' =>
      e = .returned (.tuple #[.agg #[.int .u64 (sHi (ah * 18446744073709551616 + al + (bh * 18446744073709551616 + bl))), .int .u64 (sLo (ah * 18446744073709551616 + al + (bh * 18446744073709551616 + bl)))], .int .i64 (sErr (ah * 18446744073709551616 + al + (bh * 18446744073709551616 + bl)))]) ∧ Below w.heap.size w w' := by
  obtain ⟨a1, a2⟩ := h1; obtain ⟨b1, b2⟩ := h2; obtain ⟨c1, c2⟩ := h3; obtain ⟨d1, d2⟩ := h4
  have k0 : 0 ≤ (al + bl) / 18446744073709551616 := by omega
  have k1 : (al + bl) / 18446744073709551616 ≤ 1 := by omega
  by_cases hT : ah * 18446744073709551616 + al + (bh * 18446744073709551616 + bl) < 340282366920938463463374607431768211456
  · have g : (ah + bh + (al + bl) / 18446744073709551616) / 18446744073709551616 = 0 := by omega
    have HE : Hid (sHi (ah * 18446744073709551616 + al + (bh * 18446744073709551616 + bl)) = (ah + bh + (al + bl) / 18446744073709551616) % 18446744073709551616) := by
      show _ = _; unfold sHi; rw [if_pos hT]; omega
    have HL : Hid (sLo (ah * 18446744073709551616 + al + (bh * 18446744073709551616 + bl)) = (al + bl) % 18446744073709551616) := by
      show _ = _; unfold sLo; rw [if_pos hT]; omega
    have HR : Hid (sErr (ah * 18446744073709551616 + al + (bh * 18446744073709551616 + bl)) = 0) := if_pos hT
    rw [HE.out, HL.out, HR.out]
    clear hT HE HL HR
    go_enter Try.func8, Try.ntmps8
    go_wp2_with (first | simp only [add64_0 al bl b1 d1] | simp only [add64 ah bh _ a1 c1 k0 k1])
    simp [bodyPost, results, Try.results8, go_sem]
    exact (((Below.refl _ w).alloc (Nat.le_refl _) _).alloc (by simp) _).alloc (by simp; omega) _
  · have g : (ah + bh + (al + bl) / 18446744073709551616) / 18446744073709551616 = 1 := by omega
    have HE : Hid (sHi (ah * 18446744073709551616 + al + (bh * 18446744073709551616 + bl)) = 0) := if_neg hT
    have HL : Hid (sLo (ah * 18446744073709551616 + al + (bh * 18446744073709551616 + bl)) = 0) := if_neg hT
    have HR : Hid (sErr (ah * 18446744073709551616 + al + (bh * 18446744073709551616 + bl)) = 6) := if_neg hT
    rw [HE.out, HL.out, HR.out]
    clear hT HE HL HR
    go_enter Try.func8, Try.ntmps8
    go_wp2_with (first | simp only [add64_0 al bl b1 d1] | simp only [add64 ah bh _ a1 c1 k0 k1])
    simp [bodyPost, results, Try.results8, go_sem]
    exact (((Below.refl _ w).alloc (Nat.le_refl _) _).alloc (by simp) _).alloc (by simp; omega) _

theorem cmp_any (ah al bh bl : Int) (h2 : Word al) (h4 : Word bl) (w : World) :
    Calls Try.prog 14 #[.agg #[.int .u64 ah, .int .u64 al], .agg #[.int .u64 bh, .int .u64 bl]] w fun e w' =>
      e = .returned (.int .i64 (cmpI (ah * 18446744073709551616 + al) (bh * 18446744073709551616 + bl))) ∧ Below w.heap.size w w' := by
  obtain ⟨b1, b2⟩ := h2; obtain ⟨d1, d2⟩ := h4
  by_cases h : ah = bh
  · subst h
    have HC : Hid (cmpI (ah * 18446744073709551616 + al) (ah * 18446744073709551616 + bl) = cmpI al bl) := by
      show _ = _
      rcases Int.lt_trichotomy al bl with h | h | h
      · rw [cmpI_lt h, cmpI_lt (by omega)]
      · rw [cmpI_eq h, cmpI_eq (by omega)]
      · rw [cmpI_gt h, cmpI_gt (by omega)]
    rw [HC.out]
    go_enter Try.func14, Try.ntmps14
    go_wp2_with (go_at_call 36; refine (compare_any _ _ _).mono ?_; rintro e w' ⟨rfl, rfl⟩)
    go_ret
    exact ⟨rfl, ((Below.refl _ w).alloc (Nat.le_refl _) _).alloc (by simp) _⟩
  · have HC : Hid (cmpI (ah * 18446744073709551616 + al) (bh * 18446744073709551616 + bl) = cmpI ah bh) := by
      show _ = _
      rcases Int.lt_trichotomy ah bh with h' | h' | h'
      · rw [cmpI_lt h', cmpI_lt (by omega)]
      · exact absurd h' h
      · rw [cmpI_gt h', cmpI_gt (by omega)]
    rw [HC.out]
    go_enter Try.func14, Try.ntmps14
    go_wp2_with (go_at_call 36; refine (compare_any _ _ _).mono ?_; rintro e w' ⟨rfl, rfl⟩)
    go_ret
    exact ⟨rfl, ((Below.refl _ w).alloc (Nat.le_refl _) _).alloc (by simp) _⟩

/-- How far from 0. -/
def absI (n : Int) : Int := if n < 0 then -n else n
theorem absI_word {n : Int} (h : Whole n) : Word (absI n) := by
  obtain ⟨h1, h2⟩ := h
  unfold absI Word
  split <;> omega

theorem size_any (n : Int) (h : Whole n) (w : World) : Calls Try.prog 39 #[.int .i64 n] w fun e w' => e = .returned (.int .u64 (absI n)) ∧ w = w' := by
  obtain ⟨h1, h2⟩ := h
  by_cases hn : n < 0
  · have HE : Hid (IntKind.u64.wrap (-IntKind.u64.wrap n) = absI n) := by
      show _ = _; unfold absI; rw [if_pos hn, IntKind.wrap_u64, IntKind.wrap_u64]; omega
    go_enter Try.func39, Try.ntmps39
    go_wp2
    go_ret
    exact ⟨congrArg (fun x => Ending.returned (Value.int .u64 x)) HE.out, rfl⟩
  · have HE : Hid (n = absI n) := by
      show _ = _; unfold absI; rw [if_neg hn]
    go_enter Try.func39, Try.ntmps39
    go_wp2
    go_ret
    exact ⟨congrArg (fun x => Ending.returned (Value.int .u64 x)) HE.out, rfl⟩

theorem square_any (n : Int) (h : Whole n) (w : World) :
    Calls Try.prog 27 #[.int .i64 n] w fun e w' => e = .returned (.agg #[.int .u64 (hi (absI n) (absI n)), .int .u64 (lo (absI n) (absI n))]) ∧ Below w.heap.size w w' := by
  have hw := absI_word h
  go_enter Try.func27, Try.ntmps27
  go_wp2_with (first
    | (go_at_call 39; refine (size_any _ h _).mono ?_; rintro e w' ⟨rfl, rfl⟩)
    | (go_at_call 12; refine (mul_at _ _ hw hw _).mono ?_; rintro e w1 ⟨rfl, rfl⟩))
  simp [bodyPost, results, Try.results27, go_sem]
  exact ((Below.refl _ w).alloc (Nat.le_refl _) _).alloc (by simp) _

/-- What is there of a sum, a difference or a product, if it is of 64 bits with a sign. -/
def fitV (s : Int) : Int := if -9223372036854775808 ≤ s ∧ s < 9223372036854775808 then s else 0
def fitE (s : Int) : Int := if -9223372036854775808 ≤ s ∧ s < 9223372036854775808 then 0 else 6

theorem plus_any (a b : Int) (ha : Whole a) (hb : Whole b) (w : World) :
    Calls Try.prog 19 #[.int .i64 a, .int .i64 b] w fun e w' => e = .returned (.tuple #[.int .i64 (fitV (a + b)), .int .i64 (fitE (a + b))]) ∧ w = w' := by
  obtain ⟨a1, a2⟩ := ha; obtain ⟨b1, b2⟩ := hb
  by_cases hf : -9223372036854775808 ≤ a + b ∧ a + b < 9223372036854775808
  · have HV : Hid (fitV (a + b) = a + b) := if_pos hf
    have HE : Hid (fitE (a + b) = 0) := if_pos hf
    have hw : IntKind.i64.wrap (a + b) = a + b := by rw [IntKind.wrap_i64]; omega
    rw [HV.out, HE.out]
    by_cases hb : 0 < b
    · have g1 : a < a + b := by omega
      go_enter Try.func19, Try.ntmps19
      go_wp2
      go_ret2
      exact ⟨rfl, rfl⟩
    · have g1 : ¬ a < a + b := by omega
      go_enter Try.func19, Try.ntmps19
      go_wp2
      go_ret2
      exact ⟨rfl, rfl⟩
  · have HV : Hid (fitV (a + b) = 0) := if_neg hf
    have HE : Hid (fitE (a + b) = 6) := if_neg hf
    rw [HV.out, HE.out]
    obtain ⟨s, hs⟩ : ∃ s, IntKind.i64.wrap (a + b) = s := ⟨_, rfl⟩
    by_cases hb : 0 < b
    · have g1 : ¬ a < s := by rw [← hs, IntKind.wrap_i64]; omega
      go_enter Try.func19, Try.ntmps19
      go_wp2
      go_ret2
      exact ⟨rfl, rfl⟩
    · have g1 : a < s := by rw [← hs, IntKind.wrap_i64]; omega
      go_enter Try.func19, Try.ntmps19
      go_wp2
      go_ret2
      exact ⟨rfl, rfl⟩

theorem minus_any (a b : Int) (ha : Whole a) (hb : Whole b) (w : World) :
    Calls Try.prog 21 #[.int .i64 a, .int .i64 b] w fun e w' => e = .returned (.tuple #[.int .i64 (fitV (a - b)), .int .i64 (fitE (a - b))]) ∧ w = w' := by
  obtain ⟨a1, a2⟩ := ha; obtain ⟨b1, b2⟩ := hb
  obtain ⟨s, hs⟩ : ∃ s, IntKind.i64.wrap (a - b) = s := ⟨_, rfl⟩
  by_cases hf : -9223372036854775808 ≤ a - b ∧ a - b < 9223372036854775808
  · have HV : Hid (fitV (a - b) = s) := by show _ = _; unfold fitV; rw [if_pos hf, ← hs, IntKind.wrap_i64]; omega
    have HE : Hid (fitE (a - b) = 0) := if_pos hf
    rw [HV.out, HE.out]
    by_cases hb : 0 < b
    · have g1 : s < a := by rw [← hs, IntKind.wrap_i64]; omega
      clear hf
      go_enter Try.func21, Try.ntmps21
      go_wp2
      go_ret2
      exact ⟨rfl, rfl⟩
    · have g1 : ¬ s < a := by rw [← hs, IntKind.wrap_i64]; omega
      clear hf
      go_enter Try.func21, Try.ntmps21
      go_wp2
      go_ret2
      exact ⟨rfl, rfl⟩
  · have HV : Hid (fitV (a - b) = 0) := if_neg hf
    have HE : Hid (fitE (a - b) = 6) := if_neg hf
    rw [HV.out, HE.out]
    by_cases hb : 0 < b
    · have g1 : ¬ s < a := by rw [← hs, IntKind.wrap_i64]; omega
      clear hf
      go_enter Try.func21, Try.ntmps21
      go_wp2
      go_ret2
      exact ⟨rfl, rfl⟩
    · have g1 : s < a := by rw [← hs, IntKind.wrap_i64]; omega
      clear hf
      go_enter Try.func21, Try.ntmps21
      go_wp2
      go_ret2
      exact ⟨rfl, rfl⟩

/-- A quotient, rounded down. -/
def flV (a b : Int) : Int := if b < 1 then 0 else a / b
def flE (b : Int) : Int := if b < 1 then 1 else 0

theorem floor_num (a b : Int) (hb : 1 ≤ b) :
    (a.tmod b < 0 → a / b = a.tdiv b - 1) ∧ (¬ a.tmod b < 0 → a / b = a.tdiv b) ∧ (0 ≤ a → 0 ≤ a / b ∧ a / b ≤ a) ∧ (a < 0 → a ≤ a / b ∧ a / b < 0) := by
  refine ⟨fun h => ?_, fun h => ?_, fun h => ⟨Int.ediv_nonneg h (by omega), Int.ediv_le_self _ h⟩, fun h => ?_⟩
  · have ha : a < 0 := by
      rcases Int.lt_or_le a 0 with h' | h'
      · exact h'
      · have := Int.tmod_nonneg b h'; omega
    obtain ⟨c, rfl⟩ : ∃ c, a = -c := ⟨-a, by omega⟩
    have e1 : (-c).tdiv b = -(c / b) := by rw [Int.neg_tdiv, Int.tdiv_eq_ediv_of_nonneg (by omega)]
    have e2 : (-c).tmod b = -(c % b) := by rw [Int.neg_tmod, Int.tmod_eq_emod_of_nonneg (by omega)]
    rw [e1]; rw [e2] at h
    have h3 := Int.mul_ediv_add_emod c b
    have h4 := Int.emod_lt_of_pos c (by omega : 0 < b)
    have : (-c) / b = -(c / b) - 1 ∧ (-c) % b = b - c % b := by
      rw [Int.ediv_emod_unique (by omega)]
      refine ⟨?_, by omega, by omega⟩
      rw [Int.mul_sub, Int.mul_neg]
      omega
    omega
  · rcases Int.lt_or_le a 0 with h' | h'
    · obtain ⟨c, rfl⟩ : ∃ c, a = -c := ⟨-a, by omega⟩
      have e1 : (-c).tdiv b = -(c / b) := by rw [Int.neg_tdiv, Int.tdiv_eq_ediv_of_nonneg (by omega)]
      have e2 : (-c).tmod b = -(c % b) := by rw [Int.neg_tmod, Int.tmod_eq_emod_of_nonneg (by omega)]
      rw [e1]; rw [e2] at h
      have h3 := Int.mul_ediv_add_emod c b
      have h4 := Int.emod_nonneg c (by omega : b ≠ 0)
      have : (-c) / b = -(c / b) ∧ (-c) % b = 0 := by
        rw [Int.ediv_emod_unique (by omega)]
        refine ⟨?_, by omega, by omega⟩
        rw [Int.mul_neg]
        omega
      omega
    · rw [Int.tdiv_eq_ediv_of_nonneg h']
  · refine ⟨?_, Int.ediv_neg_of_neg_of_pos h (by omega)⟩
    rw [Int.le_ediv_iff_mul_le (by omega)]
    have := Int.mul_le_mul_of_nonpos_left (a := a) (by omega) hb
    omega

theorem floor_any (a b : Int) (ha : Whole a) (w : World) :
    Calls Try.prog 25 #[.int .i64 a, .int .i64 b] w fun e w' => e = .returned (.tuple #[.int .i64 (flV a b), .int .i64 (flE b)]) ∧ w = w' := by
  by_cases h : b < 1
  · have HV : Hid (flV a b = 0) := if_pos h
    have HE : Hid (flE b = 1) := if_pos h
    rw [HV.out, HE.out]
    go_enter Try.func25, Try.ntmps25
    go_wp2
    go_ret2
    exact ⟨rfl, rfl⟩
  · have HV : Hid (flV a b = a / b) := if_neg h
    have HE : Hid (flE b = 0) := if_neg h
    rw [HV.out, HE.out]
    have hn : b ≠ 0 := by omega
    obtain ⟨k1, k2, k3, k4⟩ := floor_num a b (by omega)
    obtain ⟨a1, a2⟩ := ha
    obtain ⟨q, hq⟩ : ∃ q, a.tdiv b = q := ⟨_, rfl⟩
    obtain ⟨r, hr⟩ : ∃ r, a.tmod b = r := ⟨_, rfl⟩
    rw [hq, hr] at k1 k2
    by_cases hr0 : r < 0
    · have HK := Lib.hid (k1 hr0)
      have k5 := k1 hr0
      have ha : a < 0 := by
        rcases Int.lt_or_le a 0 with h' | h'
        · exact h'
        · have := Int.tmod_nonneg b h'; omega
      have k6 := k4 ha
      have w1 : wrap64 q = q := by unfold wrap64; omega
      have w2 : wrap64 (q - 1) = q - 1 := by unfold wrap64; omega
      clear k1 k2 k3 k4 k5 k6
      go_enter Try.func25, Try.ntmps25
      go_wp2
      go_ret2
      exact ⟨by rw [HK.out]; rfl, rfl⟩
    · have HK := Lib.hid (k2 hr0)
      have k5 := k2 hr0
      have w1 : wrap64 q = q := by
        rcases Int.lt_or_le a 0 with h' | h'
        · have := k4 h'; unfold wrap64; omega
        · have := k3 h'; unfold wrap64; omega
      clear k1 k2 k3 k4 k5
      go_enter Try.func25, Try.ntmps25
      go_wp2
      go_ret2
      exact ⟨by rw [HK.out]; rfl, rfl⟩

theorem room_yes (w : World) : Calls Try.prog 40 #[.bool true] w fun e w' => e = .returned (.int .u64 9223372036854775808) ∧ w' = w := by
  go_enter Try.func40, Try.ntmps40
  go_wp2
  go_ret
  exact ⟨rfl, rfl⟩
theorem room_no (w : World) : Calls Try.prog 40 #[.bool false] w fun e w' => e = .returned (.int .u64 9223372036854775807) ∧ w' = w := by
  go_enter Try.func40, Try.ntmps40
  go_wp2
  go_ret
  exact ⟨rfl, rfl⟩

theorem fitV_yes {s : Int} (h : -9223372036854775808 ≤ s ∧ s < 9223372036854775808) : fitV s = s := if_pos h
theorem fitE_yes {s : Int} (h : -9223372036854775808 ≤ s ∧ s < 9223372036854775808) : fitE s = 0 := if_pos h
theorem fitV_no {s : Int} (h : ¬ (-9223372036854775808 ≤ s ∧ s < 9223372036854775808)) : fitV s = 0 := if_neg h
theorem fitE_no {s : Int} (h : ¬ (-9223372036854775808 ≤ s ∧ s < 9223372036854775808)) : fitE s = 6 := if_neg h

/-- A product's sign. -/
theorem sign_mul (a b : Int) : a * b = if (decide (a < 0) != decide (b < 0)) = true then -(absI a * absI b) else absI a * absI b := by
  unfold absI
  by_cases h1 : a < 0 <;> by_cases h2 : b < 0 <;> simp [h1, h2, Int.neg_mul, Int.mul_neg]


theorem two_below (w : World) (o1 o2 : Obj) (n : Nat) : Below w.heap.size w (((w.alloc o1).alloc o2).drewN n) := by
  have h := ((Below.refl _ w).alloc (Nat.le_refl _) o1).alloc (by simp) o2
  exact ⟨h.os, h.tape, h.output, h.size, h.block⟩

/-- Where the product is of 64 bits. -/
theorem product_in (a b : Int) (ha : Whole a) (hb : Whole b) (hh : hi (absI a) (absI b) = 0) (w : World) :
    Calls Try.prog 23 #[.int .i64 a, .int .i64 b] w fun e w' => e = .returned (.tuple #[.int .i64 (fitV (a * b)), .int .i64 (fitE (a * b))]) ∧ Below w.heap.size w w' := by
  have hX := absI_word ha
  have hY := absI_word hb
  have HS := Lib.hid (sign_mul a b)
  have HL := Lib.hid (hi_lo (absI a) (absI b))
  obtain ⟨l1, l2⟩ := lo_word (absI a) (absI b)
  generalize hP : a * b = P at *
  clear hP
  cases h1 : decide (a < 0) <;> cases h2 : decide (b < 0)
  all_goals
    have e := HS.out
    have f := HL.out
    rw [h1, h2] at e
    rw [hh] at f
    simp at e
    clear HS HL
  · by_cases h3 : 9223372036854775807 < lo (absI a) (absI b)
    · have HN : Hid (¬ (-9223372036854775808 ≤ P ∧ P < 9223372036854775808)) := by show ¬ _; omega
      rw [fitV_no HN.out, fitE_no HN.out]
      clear e f HN
      go_enter Try.func23, Try.ntmps23
      go_wp2_with (first
        | (go_at_call 39; refine (size_any _ (by assumption) _).mono ?_; rintro e w' ⟨rfl, rfl⟩)
        | (go_at_call 12; refine (mul_at _ _ hX hY _).mono ?_; rintro e w1 ⟨rfl, rfl⟩))
      go_quiet ((go_at_call 40; exact Calls.quiet_of_same (room_no _)))
      go_wp2
      go_ret2
      exact ⟨rfl, two_below _ _ _ _⟩
    · have HN : Hid (-9223372036854775808 ≤ P ∧ P < 9223372036854775808) := by show _ ∧ _; omega
      rw [fitV_yes HN.out, fitE_yes HN.out]
      have HP : Hid (P = lo (absI a) (absI b)) := by show _ = _; omega
      clear e f HN
      go_enter Try.func23, Try.ntmps23
      go_wp2_with (first
        | (go_at_call 39; refine (size_any _ (by assumption) _).mono ?_; rintro e w' ⟨rfl, rfl⟩)
        | (go_at_call 12; refine (mul_at _ _ hX hY _).mono ?_; rintro e w1 ⟨rfl, rfl⟩))
      go_quiet ((go_at_call 40; exact Calls.quiet_of_same (room_no _)))
      go_wp2
      go_ret2
      exact ⟨by rw [HP.out]; rfl, two_below _ _ _ _⟩
  · by_cases h3 : 9223372036854775808 < lo (absI a) (absI b)
    · have HN : Hid (¬ (-9223372036854775808 ≤ P ∧ P < 9223372036854775808)) := by show ¬ _; omega
      rw [fitV_no HN.out, fitE_no HN.out]
      clear e f HN
      go_enter Try.func23, Try.ntmps23
      go_wp2_with (first
        | (go_at_call 39; refine (size_any _ (by assumption) _).mono ?_; rintro e w' ⟨rfl, rfl⟩)
        | (go_at_call 12; refine (mul_at _ _ hX hY _).mono ?_; rintro e w1 ⟨rfl, rfl⟩))
      go_quiet ((go_at_call 40; exact Calls.quiet_of_same (room_yes _)))
      go_wp2
      go_ret2
      exact ⟨rfl, two_below _ _ _ _⟩
    · have HN : Hid (-9223372036854775808 ≤ P ∧ P < 9223372036854775808) := by show _ ∧ _; omega
      rw [fitV_yes HN.out, fitE_yes HN.out]
      have HP : Hid (P = -lo (absI a) (absI b)) := by show _ = _; omega
      have HW : Hid (wrap64 (IntKind.u64.wrap (-lo (absI a) (absI b))) = -lo (absI a) (absI b)) := by show _ = _; rw [IntKind.wrap_u64]; unfold wrap64; omega
      clear e f HN
      go_enter Try.func23, Try.ntmps23
      go_wp2_with (first
        | (go_at_call 39; refine (size_any _ (by assumption) _).mono ?_; rintro e w' ⟨rfl, rfl⟩)
        | (go_at_call 12; refine (mul_at _ _ hX hY _).mono ?_; rintro e w1 ⟨rfl, rfl⟩))
      go_quiet ((go_at_call 40; exact Calls.quiet_of_same (room_yes _)))
      go_wp2
      go_ret2
      exact ⟨congrArg (fun x => Ending.returned (.tuple #[.int .i64 x, .int .i64 0])) (HW.out.trans HP.out.symm), two_below _ _ _ _⟩
  · by_cases h3 : 9223372036854775808 < lo (absI a) (absI b)
    · have HN : Hid (¬ (-9223372036854775808 ≤ P ∧ P < 9223372036854775808)) := by show ¬ _; omega
      rw [fitV_no HN.out, fitE_no HN.out]
      clear e f HN
      go_enter Try.func23, Try.ntmps23
      go_wp2_with (first
        | (go_at_call 39; refine (size_any _ (by assumption) _).mono ?_; rintro e w' ⟨rfl, rfl⟩)
        | (go_at_call 12; refine (mul_at _ _ hX hY _).mono ?_; rintro e w1 ⟨rfl, rfl⟩))
      go_quiet ((go_at_call 40; exact Calls.quiet_of_same (room_yes _)))
      go_wp2
      go_ret2
      exact ⟨rfl, two_below _ _ _ _⟩
    · have HN : Hid (-9223372036854775808 ≤ P ∧ P < 9223372036854775808) := by show _ ∧ _; omega
      rw [fitV_yes HN.out, fitE_yes HN.out]
      have HP : Hid (P = -lo (absI a) (absI b)) := by show _ = _; omega
      have HW : Hid (wrap64 (IntKind.u64.wrap (-lo (absI a) (absI b))) = -lo (absI a) (absI b)) := by show _ = _; rw [IntKind.wrap_u64]; unfold wrap64; omega
      clear e f HN
      go_enter Try.func23, Try.ntmps23
      go_wp2_with (first
        | (go_at_call 39; refine (size_any _ (by assumption) _).mono ?_; rintro e w' ⟨rfl, rfl⟩)
        | (go_at_call 12; refine (mul_at _ _ hX hY _).mono ?_; rintro e w1 ⟨rfl, rfl⟩))
      go_quiet ((go_at_call 40; exact Calls.quiet_of_same (room_yes _)))
      go_wp2
      go_ret2
      exact ⟨congrArg (fun x => Ending.returned (.tuple #[.int .i64 x, .int .i64 0])) (HW.out.trans HP.out.symm), two_below _ _ _ _⟩
  · by_cases h3 : 9223372036854775807 < lo (absI a) (absI b)
    · have HN : Hid (¬ (-9223372036854775808 ≤ P ∧ P < 9223372036854775808)) := by show ¬ _; omega
      rw [fitV_no HN.out, fitE_no HN.out]
      clear e f HN
      go_enter Try.func23, Try.ntmps23
      go_wp2_with (first
        | (go_at_call 39; refine (size_any _ (by assumption) _).mono ?_; rintro e w' ⟨rfl, rfl⟩)
        | (go_at_call 12; refine (mul_at _ _ hX hY _).mono ?_; rintro e w1 ⟨rfl, rfl⟩))
      go_quiet ((go_at_call 40; exact Calls.quiet_of_same (room_no _)))
      go_wp2
      go_ret2
      exact ⟨rfl, two_below _ _ _ _⟩
    · have HN : Hid (-9223372036854775808 ≤ P ∧ P < 9223372036854775808) := by show _ ∧ _; omega
      rw [fitV_yes HN.out, fitE_yes HN.out]
      have HP : Hid (P = lo (absI a) (absI b)) := by show _ = _; omega
      clear e f HN
      go_enter Try.func23, Try.ntmps23
      go_wp2_with (first
        | (go_at_call 39; refine (size_any _ (by assumption) _).mono ?_; rintro e w' ⟨rfl, rfl⟩)
        | (go_at_call 12; refine (mul_at _ _ hX hY _).mono ?_; rintro e w1 ⟨rfl, rfl⟩))
      go_quiet ((go_at_call 40; exact Calls.quiet_of_same (room_no _)))
      go_wp2
      go_ret2
      exact ⟨by rw [HP.out]; rfl, two_below _ _ _ _⟩

theorem product_any (a b : Int) (ha : Whole a) (hb : Whole b) (w : World) :
    Calls Try.prog 23 #[.int .i64 a, .int .i64 b] w fun e w' => e = .returned (.tuple #[.int .i64 (fitV (a * b)), .int .i64 (fitE (a * b))]) ∧ Below w.heap.size w w' := by
  by_cases hh : hi (absI a) (absI b) = 0
  · exact product_in a b ha hb hh w
  · have hX := absI_word ha
    have hY := absI_word hb
    have HN : Hid (¬ (-9223372036854775808 ≤ a * b ∧ a * b < 9223372036854775808)) := by
      have e := sign_mul a b
      have f := hi_lo (absI a) (absI b)
      have g := hi_word hX hY
      have l := lo_word (absI a) (absI b)
      unfold Word at g l
      show ¬ _
      split at e <;> omega
    rw [fitV_no HN.out, fitE_no HN.out]
    clear HN
    cases h1 : decide (a < 0) <;> cases h2 : decide (b < 0)
    all_goals
      go_enter Try.func23, Try.ntmps23
      go_wp2_with (first
        | (go_at_call 39; refine (size_any _ (by assumption) _).mono ?_; rintro e w' ⟨rfl, rfl⟩)
        | (go_at_call 12; refine (mul_at _ _ hX hY _).mono ?_; rintro e w1 ⟨rfl, rfl⟩))
      go_quiet (fail)
      go_wp2
      go_ret2
      exact ⟨rfl, two_below _ _ _ _⟩
end Go.Proofs.Ytiagkkehemdkpaa
