/-
  THE CHAPTER's EXAMPLES of rank, and which numbers are keys by the document. Condition: the number is of 64 bits.
-/
import Derived.Test.YtogfoagnknkdaaaRefRank
namespace Go.Proofs.Ytogfoagnknkdaaa
open Go.RowKit

theorem isK_iff (k : Nat) (h : k < 18446744073709551616) : isK k ↔ (k = 0 ∨ (4503599627370495 ≤ k ∧ k ≤ 18442240474082181120 ∧ k ≠ 9223372036854775807)) := by
  unfold isK
  by_cases hh : 9223372036854775808 ≤ k
  · have e : tb k = k - 9223372036854775808 := by unfold tb; rw [if_pos hh]; omega
    rw [e]
    unfold key
    by_cases hm : mis (k - 9223372036854775808)
    · rw [if_pos hm]; unfold mis at hm; omega
    · rw [if_neg hm]
      unfold mis at hm
      split
      · omega
      · split <;> omega
  · have e : tb k = 18446744073709551615 - k := by unfold tb; rw [if_neg hh]
    rw [e]
    unfold key
    by_cases hm : mis (18446744073709551615 - k)
    · rw [if_pos hm]; unfold mis at hm; omega
    · rw [if_neg hm]
      unfold mis at hm
      split
      · omega
      · split <;> omega

theorem refIs_any (k : Nat) (h : k < 18446744073709551616) (w : World) :
    Calls Try.prog 18 #[.int .u64 (k : Int)] w fun e w' => e = .returned (.bool (decide (isK k))) ∧ w = w' := by
  have HD : Hid (decide (isK k) = decide (k = 0 ∨ (4503599627370495 ≤ k ∧ k ≤ 18442240474082181120 ∧ k ≠ 9223372036854775807))) := decide_eq_decide.2 (isK_iff k h)
  obtain ⟨c, hc⟩ : ∃ c : Int, c = (k : Int) := ⟨_, rfl⟩
  rw [HD.out, ← hc]
  have HC := Lib.hid hc
  clear hc
  by_cases h1 : c = 0
  · have HX : Hid (decide (k = 0 ∨ (4503599627370495 ≤ k ∧ k ≤ 18442240474082181120 ∧ k ≠ 9223372036854775807)) = true) := decide_eq_true (by have := HC.out; omega)
    rw [HX.out]
    go_enter Try.func18, Try.ntmps18
    go_wp2
    go_ret
    exact ⟨rfl, rfl⟩
  · by_cases h2 : 4503599627370495 ≤ c
    · by_cases h3 : c ≤ 18442240474082181120
      · by_cases h4 : c = 9223372036854775807
        · have HX : Hid (decide (k = 0 ∨ (4503599627370495 ≤ k ∧ k ≤ 18442240474082181120 ∧ k ≠ 9223372036854775807)) = false) := decide_eq_false (by have := HC.out; omega)
          rw [HX.out]
          go_enter Try.func18, Try.ntmps18
          go_wp2
          go_ret
          exact ⟨rfl, rfl⟩
        · have HX : Hid (decide (k = 0 ∨ (4503599627370495 ≤ k ∧ k ≤ 18442240474082181120 ∧ k ≠ 9223372036854775807)) = true) := decide_eq_true (by have := HC.out; omega)
          rw [HX.out]
          go_enter Try.func18, Try.ntmps18
          go_wp2
          go_ret
          exact ⟨by simp [h1, h4], rfl⟩
      · have HX : Hid (decide (k = 0 ∨ (4503599627370495 ≤ k ∧ k ≤ 18442240474082181120 ∧ k ≠ 9223372036854775807)) = false) := decide_eq_false (by have := HC.out; omega)
        rw [HX.out]
        go_enter Try.func18, Try.ntmps18
        go_wp2
        go_ret
        exact ⟨by simp [h1], rfl⟩
    · have HX : Hid (decide (k = 0 ∨ (4503599627370495 ≤ k ∧ k ≤ 18442240474082181120 ∧ k ≠ 9223372036854775807)) = false) := decide_eq_false (by have := HC.out; omega)
      rw [HX.out]
      go_enter Try.func18, Try.ntmps18
      go_wp2
      go_ret
      exact ⟨by simp [h1], rfl⟩

theorem inf_neg (w : World) : Calls Try.prog 26 #[.int .i64 (-1)] w fun e w' => e = .returned (.float .f64 18442240474082181120) ∧ w = w' := by
  go_enter Try.func26, Try.ntmps26
  go_wp2_with (simp only [fromb])
  go_ret
  exact ⟨rfl, rfl⟩

theorem copysign_neg (w : World) : Calls Try.prog 27 #[.float .f64 0, .float .f64 13830554455654793216] w fun e w' => e = .returned (.float .f64 9223372036854775808) ∧ w = w' := by
  have e1 : bits .andNot .u64 0 9223372036854775808 = 0 := low63 0 (by decide)
  have e2 : bits .and .u64 13830554455654793216 9223372036854775808 = 9223372036854775808 := top63 13830554455654793216 (by decide)
  have e3 : bits .or .u64 0 9223372036854775808 = 9223372036854775808 := set63 0 (by decide)
  go_enter Try.func27, Try.ntmps27
  go_wp2_with (first | simp only [tob] | simp only [fromb])
  go_ret
  exact ⟨rfl, rfl⟩

theorem fixed_any (w : World) : Calls Try.prog 12 #[] w fun e w' => e = .returned (.bool true) ∧ w = w' := by
  have k1 : ((key 18442240474082181120 : Nat) : Int) = 4503599627370495 := by decide +kernel
  have k2 : ((key 9223372036854775808 : Nat) : Int) = 9223372036854775808 := by decide +kernel
  have k3 : ((key 0 : Nat) : Int) = 9223372036854775808 := by decide +kernel
  have k4 : ((key 4607182418800017408 : Nat) : Int) = 13830554455654793216 := by decide +kernel
  go_enter Try.func12, Try.ntmps12
  go_wp2_with (first
    | (go_at_call 26; refine (inf_neg _).mono ?_; rintro e w' ⟨rfl, rfl⟩)
    | (go_at_call 27; refine (copysign_neg _).mono ?_; rintro e w' ⟨rfl, rfl⟩)
    | (go_at_call 11; refine (key_any _ (by decide) _).mono ?_; rintro e w' ⟨rfl, rfl⟩))
  go_ret
  exact ⟨rfl, rfl⟩

end Go.Proofs.Ytogfoagnknkdaaa
