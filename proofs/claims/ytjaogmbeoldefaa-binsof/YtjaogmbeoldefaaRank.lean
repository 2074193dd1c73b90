/-
  THE FUNCTIONS OF rank OVER FLOATS BY THEIR BITS: missing, clean, key, of a key, how two stand; and the document's. Condition: the bits are 64.
-/
import Derived.Test.YtjaogmbeoldefaaFloNum
import Derived.Test.YtjaogmbeoldefaaCmpU
import Derived.Laws.Externs
import Derived.Laws.BitsAllLaws
import Derived.Handy
import Derived.Deep.QuietTactic
import Derived.BigQuiet
import Derived.Deep.RegionHeld3
namespace Go.Proofs.Ytjaogmbeoldefaa
open Go.RowKit

theorem fromb (n : Int) (w : World) : (callFunc 35 #[.int .u64 n]).run Try.prog w = .ok (.value (.float .f64 n.toNat)) w := by
  rw [run_callFunc_extern Try.func35 (by kernel_rfl) (by kernel_rfl) (by kernel_rfl) (e := Extern.MathFloatBits.float64frombits) (by kernel_rfl)]
  rfl
theorem fromb_nat (n : Nat) (w : World) : (callFunc 35 #[.int .u64 (n : Int)]).run Try.prog w = .ok (.value (.float .f64 n)) w := fromb n w
theorem tob (b : Nat) (w : World) : (callFunc 34 #[.float .f64 b]).run Try.prog w = .ok (.value (.int .u64 b)) w := by
  rw [run_callFunc_extern Try.func34 (by kernel_rfl) (by kernel_rfl) (by kernel_rfl) (e := Extern.MathFloatBits.float64bits) (by kernel_rfl)]
  rfl

theorem low63 (b : Nat) (h : b < 18446744073709551616) : bits .andNot .u64 (b : Int) 9223372036854775808 = ((b % 9223372036854775808 : Nat) : Int) := by
  have e := u64_andNot_nat b 9223372036854775808 h (by decide)
  have : b &&& (18446744073709551615 - 9223372036854775808) = b % 9223372036854775808 := Nat.and_two_pow_sub_one_eq_mod b 63
  rw [this] at e
  exact e
theorem top63 (b : Nat) (h : b < 18446744073709551616) : bits .and .u64 (b : Int) 9223372036854775808 = (if 9223372036854775808 ≤ b then 9223372036854775808 else 0) := by
  have e := u64_and_nat b 9223372036854775808 h (by decide)
  have e2 := nat_bit 63 b
  have : (b &&& 9223372036854775808) = (b / 9223372036854775808 % 2) * 9223372036854775808 := e2
  rw [this] at e
  refine Eq.trans e ?_
  split <;> omega
theorem set63 (b : Nat) (h : b < 9223372036854775808) : bits .or .u64 (b : Int) 9223372036854775808 = ((b + 9223372036854775808 : Nat) : Int) := by
  have e := u64_or_nat b 9223372036854775808 (by omega) (by decide)
  have : b ||| 9223372036854775808 = b + 9223372036854775808 := by
    rw [Nat.or_comm, Nat.add_comm]
    exact nat_join 63 _ _ (by decide) h
  rw [this] at e
  exact e
theorem not64 (b : Nat) (h : b < 18446744073709551616) : bits .xor .u64 IntKind.u64.max (b : Int) = ((18446744073709551615 - b : Nat) : Int) := by
  have e := u64_xor_nat 18446744073709551615 b (by decide) h
  have : 18446744073709551615 ^^^ b = 18446744073709551615 - b := by
    have h1 : (BitVec.ofNat 64 b).toNat = b := by simp; omega
    have h2 : (~~~ (BitVec.ofNat 64 b)).toNat = 2 ^ 64 - 1 - b := by rw [BitVec.toNat_not, h1]
    have h3 : (BitVec.allOnes 64 ^^^ BitVec.ofNat 64 b).toNat = 18446744073709551615 ^^^ b := by rw [BitVec.toNat_xor, h1]; rfl
    rw [← h3, BitVec.allOnes_xor, h2]
  rw [this] at e
  have m : IntKind.u64.max = ((18446744073709551615 : Nat) : Int) := by decide +kernel
  rw [m]
  exact e

theorem missing_any (b : Nat) (h : b < 18446744073709551616) (w : World) :
    Calls Try.prog 43 #[.float .f64 b] w fun e w' => e = .returned (.bool (decide (mis b))) ∧ w = w' := by
  have e := low63 b h
  have HM : Hid (decide (9218868437227405312 < (b : Int) % 9223372036854775808) = decide (mis b)) := by
    show _ = _; unfold mis; exact decide_eq_decide.2 (by omega)
  go_enter Try.func43, Try.ntmps43
  go_wp2_with (simp only [tob])
  go_ret
  exact ⟨congrArg (fun x => Ending.returned (Value.bool x)) HM.out, rfl⟩

theorem mis_zero : ¬ mis 0 := by decide
theorem key_zero : key 0 = 9223372036854775808 := by decide
theorem key_is {b : Nat} (h : ¬ mis b) (hb : b < 18446744073709551616) : key b = 9223372036854775808 ↔ b % 9223372036854775808 = 0 := by
  unfold key
  rw [if_neg h]
  unfold mis at h
  split
  · simp_all
  · split <;> omega

theorem clean_any (b : Nat) (h : b < 18446744073709551616) (w : World) :
    Calls Try.prog 57 #[.float .f64 b] w fun e w' => e = .returned (.float .f64 (cln b)) ∧ w = w' := by
  by_cases hm : mis b
  · have HC : Hid (cln b = 9221120237041090561) := if_pos hm
    rw [HC.out]
    go_enter Try.func57, Try.ntmps57
    go_wp2_with (first | (go_at_call 43; refine (missing_any b h _).mono ?_; rintro e w' ⟨rfl, rfl⟩) | simp only [fromb])
    go_ret
    exact ⟨rfl, rfl⟩
  · by_cases hz : b % 9223372036854775808 = 0
    · have HC : Hid (cln b = 0) := by show _ = _; unfold cln; rw [if_neg hm, if_pos hz]
      have ho : (FloatKind.f64.format.order b 0 == some .eq) = true := beq_iff_eq.2 (order_eq hm mis_zero h (by decide) (by rw [(key_is hm h).2 hz, key_zero]))
      rw [HC.out]
      clear hz
      go_enter Try.func57, Try.ntmps57
      go_wp2_with (go_at_call 43; refine (missing_any b h _).mono ?_; rintro e w' ⟨rfl, rfl⟩)
      go_ret
      exact ⟨rfl, rfl⟩
    · have HC : Hid (cln b = b) := by show _ = _; unfold cln; rw [if_neg hm, if_neg hz]
      have ho : (FloatKind.f64.format.order b 0 == some .eq) = false := by
        have hk : key b ≠ key 0 := by rw [key_zero]; intro e; exact hz ((key_is hm h).1 e)
        rcases Nat.lt_or_gt_of_ne hk with k | k
        · show (Ieee.double.order b 0 == some .eq) = false
          rw [order_lt hm mis_zero h (by decide) k]; rfl
        · show (Ieee.double.order b 0 == some .eq) = false
          rw [order_gt hm mis_zero h (by decide) k]; rfl
      rw [HC.out]
      clear hz
      go_enter Try.func57, Try.ntmps57
      go_wp2_with (go_at_call 43; refine (missing_any b h _).mono ?_; rintro e w' ⟨rfl, rfl⟩)
      go_ret
      exact ⟨rfl, rfl⟩

theorem cln_lt {b : Nat} (h : b < 18446744073709551616) : cln b < 18446744073709551616 := by
  unfold cln
  split
  · decide
  · split <;> omega
theorem key_lt {b : Nat} (h : b < 18446744073709551616) : key b < 18446744073709551616 := by
  unfold key
  by_cases hm : mis b
  · rw [if_pos hm]; decide
  · rw [if_neg hm]
    unfold mis at hm
    split
    · decide
    · split <;> omega
theorem key_hi {b : Nat} (hm : ¬ mis b) (h : 9223372036854775808 ≤ cln b) : key b = 18446744073709551615 - cln b := by
  unfold key
  unfold cln at h ⊢
  rw [if_neg hm] at h ⊢
  rw [if_neg hm]
  by_cases hz : b % 9223372036854775808 = 0
  · rw [if_pos hz] at h; omega
  · rw [if_neg hz] at h ⊢
    rw [if_neg hz, if_pos h]
theorem key_lo {b : Nat} (hm : ¬ mis b) (h : ¬ 9223372036854775808 ≤ cln b) : key b = cln b + 9223372036854775808 := by
  unfold key
  unfold cln at h ⊢
  rw [if_neg hm] at h ⊢
  rw [if_neg hm]
  by_cases hz : b % 9223372036854775808 = 0
  · rw [if_pos hz, if_pos hz]
  · rw [if_neg hz] at h ⊢
    rw [if_neg hz, if_neg h]

theorem key_any (b : Nat) (h : b < 18446744073709551616) (w : World) :
    Calls Try.prog 50 #[.float .f64 b] w fun e w' => e = .returned (.int .u64 (key b)) ∧ w = w' := by
  by_cases hm : mis b
  · have HK : Hid (((key b : Nat) : Int) = 0) := by show _ = _; unfold key; rw [if_pos hm]; rfl
    rw [HK.out]
    go_enter Try.func50, Try.ntmps50
    go_wp2_with (go_at_call 43; refine (missing_any b h _).mono ?_; rintro e w' ⟨rfl, rfl⟩)
    go_ret
    exact ⟨rfl, rfl⟩
  · have hc := cln_lt h
    have ht := top63 (cln b) hc
    by_cases hh : 9223372036854775808 ≤ cln b
    · have HK : Hid (((18446744073709551615 - cln b : Nat) : Int) = ((key b : Nat) : Int)) := by show _ = _; rw [key_hi hm hh]
      have hn := not64 (cln b) hc
      rw [if_pos hh] at ht
      rw [← HK.out]
      go_enter Try.func50, Try.ntmps50
      go_wp2_with (first
        | (go_at_call 43; refine (missing_any b h _).mono ?_; rintro e w' ⟨rfl, rfl⟩)
        | (go_at_call 57; refine (clean_any b h _).mono ?_; rintro e w' ⟨rfl, rfl⟩)
        | simp only [tob])
      go_ret
      exact ⟨rfl, rfl⟩
    · have HK : Hid (((cln b + 9223372036854775808 : Nat) : Int) = ((key b : Nat) : Int)) := by show _ = _; rw [key_lo hm hh]
      have hn := set63 (cln b) (by omega)
      rw [if_neg hh] at ht
      rw [← HK.out]
      go_enter Try.func50, Try.ntmps50
      go_wp2_with (first
        | (go_at_call 43; refine (missing_any b h _).mono ?_; rintro e w' ⟨rfl, rfl⟩)
        | (go_at_call 57; refine (clean_any b h _).mono ?_; rintro e w' ⟨rfl, rfl⟩)
        | simp only [tob])
      go_ret
      exact ⟨rfl, rfl⟩

/-- The bits that a key would have been made of. -/
def tb (k : Nat) : Nat := if 9223372036854775808 ≤ k then k % 9223372036854775808 else 18446744073709551615 - k
theorem tb_lt {k : Nat} (h : k < 18446744073709551616) : tb k < 18446744073709551616 := by
  unfold tb; split <;> omega
/-- Is it a key? -/
def isK (k : Nat) : Prop := key (tb k) = k
instance (k : Nat) : Decidable (isK k) := inferInstanceAs (Decidable (_ = _))
/-- The value of a key, or 0. -/
def ofK (k : Nat) : Nat := if isK k then cln (tb k) else 0

theorem turn_any (k : Nat) (h : k < 18446744073709551616) (w : World) :
    Calls Try.prog 60 #[.int .u64 (k : Int)] w fun e w' => e = .returned (.int .u64 ((tb k : Nat) : Int)) ∧ w = w' := by
  have ht := top63 k h
  by_cases hh : 9223372036854775808 ≤ k
  · have HK : Hid (((k % 9223372036854775808 : Nat) : Int) = ((tb k : Nat) : Int)) := by show _ = _; unfold tb; rw [if_pos hh]
    have hn := low63 k h
    rw [if_pos hh] at ht
    rw [← HK.out]
    go_enter Try.func60, Try.ntmps60
    go_wp2
    go_ret
    exact ⟨rfl, rfl⟩
  · have HK : Hid (((18446744073709551615 - k : Nat) : Int) = ((tb k : Nat) : Int)) := by show _ = _; unfold tb; rw [if_neg hh]
    have hn := not64 k h
    rw [if_neg hh] at ht
    rw [← HK.out]
    go_enter Try.func60, Try.ntmps60
    go_wp2
    go_ret
    exact ⟨rfl, rfl⟩

theorem of_any (k : Nat) (h : k < 18446744073709551616) (w : World) :
    Calls Try.prog 52 #[.int .u64 (k : Int)] w fun e w' => e = .returned (.tuple #[.float .f64 (ofK k), .bool (decide (isK k))]) ∧ w = w' := by
  have hl := tb_lt h
  by_cases hk : isK k
  · have HO : Hid (ofK k = cln (tb k)) := if_pos hk
    have HD : Hid (decide (isK k) = true) := decide_eq_true hk
    have g : key (tb k) = k := hk
    rw [HO.out, HD.out]
    clear hk
    go_enter Try.func52, Try.ntmps52
    go_wp2_with (first
      | (go_at_call 60; refine (turn_any k h _).mono ?_; rintro e w' ⟨rfl, rfl⟩)
      | (go_at_call 50; refine (key_any _ hl _).mono ?_; rintro e w' ⟨rfl, rfl⟩)
      | (go_at_call 57; refine (clean_any _ hl _).mono ?_; rintro e w' ⟨rfl, rfl⟩)
      | simp only [fromb_nat])
    go_ret2
    exact ⟨rfl, rfl⟩
  · have HO : Hid (ofK k = 0) := if_neg hk
    have HD : Hid (decide (isK k) = false) := decide_eq_false hk
    have g : ¬ ((key (tb k) : Nat) : Int) = (k : Int) := by unfold isK at hk; omega
    rw [HO.out, HD.out]
    clear hk
    go_enter Try.func52, Try.ntmps52
    go_wp2_with (first
      | (go_at_call 60; refine (turn_any k h _).mono ?_; rintro e w' ⟨rfl, rfl⟩)
      | (go_at_call 50; refine (key_any _ hl _).mono ?_; rintro e w' ⟨rfl, rfl⟩)
      | simp only [fromb_nat])
    go_ret2
    exact ⟨rfl, rfl⟩

theorem cmp_any (a b : Nat) (ha : a < 18446744073709551616) (hb : b < 18446744073709551616) (w : World) :
    Calls Try.prog 61 #[.float .f64 a, .float .f64 b] w fun e w' => e = .returned (.int .i64 (cmpI (key a) (key b))) ∧ w = w' := by
  go_enter Try.func61, Try.ntmps61
  go_wp2_with (first
    | (go_at_call 50; refine (key_any _ (by assumption) _).mono ?_; rintro e w' ⟨rfl, rfl⟩)
    | (go_at_call 74; refine (compare_any _ _ _).mono ?_; rintro e w' ⟨rfl, rfl⟩))
  go_ret
  exact ⟨rfl, rfl⟩

end Go.Proofs.Ytjaogmbeoldefaa
