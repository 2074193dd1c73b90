/-
  THE WALKS OF RankKeys, RankOf, RankOrder, RankChains: each returns true and leaves the world as it was. Condition: the numbers are of 64 bits.
-/
import Derived.Test.YtogfoagnknkdaaaRankFix
namespace Go.Proofs.Ytogfoagnknkdaaa
open Go.RowKit

theorem tb_key {b : Nat} (h : b < 18446744073709551616) : isK (key b) ∧ ofK (key b) = cln b := by
  have main : isK (key b) ∧ cln (tb (key b)) = cln b := by
    unfold isK
    by_cases hm : mis b
    · rw [key_mis hm]
      have e : cln b = 9221120237041090561 := if_pos hm
      rw [e]
      exact ⟨by decide +kernel, by decide +kernel⟩
    · by_cases hz : b % 9223372036854775808 = 0
      · have e : key b = 9223372036854775808 := (key_is hm h).2 hz
        have e2 : cln b = 0 := by unfold cln; rw [if_neg hm, if_pos hz]
        rw [e, e2]
        exact ⟨by decide +kernel, by decide +kernel⟩
      · have e2 : cln b = b := by unfold cln; rw [if_neg hm, if_neg hz]
        have e3 : tb (key b) = b := by
          by_cases hh : 9223372036854775808 ≤ b
          · rw [key_hi hm (by omega), e2]
            unfold mis at hm
            unfold tb
            rw [if_neg (by omega)]
            omega
          · rw [key_lo hm (by omega), e2]
            unfold tb
            rw [if_pos (by omega)]
            omega
        rw [e3]
        exact ⟨rfl, rfl⟩
  exact ⟨main.1, by unfold ofK; rw [if_pos main.1]; exact main.2⟩

theorem keys_any (b : Nat) (h : b < 18446744073709551616) (w : World) :
    Calls Try.prog 3 #[.int .u64 (b : Int)] w fun e w' => e = .returned (.bool true) ∧ w = w' := by
  obtain ⟨hi, ho⟩ := tb_key h
  have hk := key_lt h
  go_enter Try.func3, Try.ntmps3
  go_wp2_with (first
    | (go_at_call 12; refine (fixed_any _).mono ?_; rintro e w' ⟨rfl, rfl⟩)
    | (go_at_call 13; refine (missing_any b h _).mono ?_; rintro e w' ⟨rfl, rfl⟩)
    | (go_at_call 14; refine (refMissing_any b h _).mono ?_; rintro e w' ⟨rfl, rfl⟩)
    | (go_at_call 9; refine (clean_any b h _).mono ?_; rintro e w' ⟨rfl, rfl⟩)
    | (go_at_call 11; refine (key_any b h _).mono ?_; rintro e w' ⟨rfl, rfl⟩)
    | (go_at_call 15; refine (refKey_any b h _).mono ?_; rintro e w' ⟨rfl, rfl⟩)
    | (go_at_call 17; refine (refBits_any b h _).mono ?_; rintro e w' ⟨rfl, rfl⟩)
    | (go_at_call 10; refine (of_any (key b) hk _).mono ?_; rintro e w' ⟨rfl, rfl⟩)
    | simp only [fromb_nat] | simp only [tob])
  go_ret
  exact ⟨rfl, rfl⟩

theorem cln_cln {b : Nat} (h : b < 18446744073709551616) : cln (cln b) = cln b ∧ key (cln b) = key b := by
  by_cases hm : mis b
  · have e : cln b = 9221120237041090561 := if_pos hm
    rw [e, key_mis hm]
    exact ⟨by decide +kernel, by decide +kernel⟩
  · by_cases hz : b % 9223372036854775808 = 0
    · have e2 : cln b = 0 := by unfold cln; rw [if_neg hm, if_pos hz]
      rw [e2, (key_is hm h).2 hz]
      exact ⟨by decide +kernel, by decide +kernel⟩
    · have e2 : cln b = b := by unfold cln; rw [if_neg hm, if_neg hz]
      rw [e2]
      exact ⟨e2, rfl⟩
theorem ofK_yes {k : Nat} (h : k < 18446744073709551616) (hk : isK k) : cln (ofK k) = ofK k ∧ key (ofK k) = k ∧ ofK k < 18446744073709551616 := by
  have e : ofK k = cln (tb k) := if_pos hk
  rw [e]
  obtain ⟨e1, e2⟩ := cln_cln (tb_lt h)
  exact ⟨e1, e2.trans hk, cln_lt (tb_lt h)⟩

theorem ofs_any (k : Nat) (h : k < 18446744073709551616) (w : World) :
    Calls Try.prog 4 #[.int .u64 (k : Int)] w fun e w' => e = .returned (.bool true) ∧ w = w' := by
  by_cases hk : isK k
  · obtain ⟨e1, e2, e3⟩ := ofK_yes h hk
    go_enter Try.func4, Try.ntmps4
    go_wp2_with (first
      | (go_at_call 12; refine (fixed_any _).mono ?_; rintro e w' ⟨rfl, rfl⟩)
      | (go_at_call 18; refine (refIs_any k h _).mono ?_; rintro e w' ⟨rfl, rfl⟩)
      | (go_at_call 15; refine (refKey_any _ e3 _).mono ?_; rintro e w' ⟨rfl, rfl⟩)
      | (go_at_call 17; refine (refBits_any _ e3 _).mono ?_; rintro e w' ⟨rfl, rfl⟩)
      | (go_at_call 10; refine (of_any k h _).mono ?_; rintro e w' ⟨rfl, rfl⟩)
      | simp only [tob])
    go_ret
    exact ⟨rfl, rfl⟩
  · have e1 : ofK k = 0 := if_neg hk
    go_enter Try.func4, Try.ntmps4
    go_wp2_with (first
      | (go_at_call 12; refine (fixed_any _).mono ?_; rintro e w' ⟨rfl, rfl⟩)
      | (go_at_call 18; refine (refIs_any k h _).mono ?_; rintro e w' ⟨rfl, rfl⟩)
      | (go_at_call 10; refine (of_any k h _).mono ?_; rintro e w' ⟨rfl, rfl⟩)
      | simp only [tob])
    go_ret
    exact ⟨rfl, rfl⟩

theorem orders_any (a b : Nat) (ha : a < 18446744073709551616) (hb : b < 18446744073709551616) (w : World) :
    Calls Try.prog 5 #[.int .u64 (a : Int), .int .u64 (b : Int)] w fun e w' => e = .returned (.bool true) ∧ w = w' := by
  rcases Int.lt_trichotomy (key a) (key b) with hk | hk | hk
  · have e1 := cmpI_lt hk
    go_enter Try.func5, Try.ntmps5
    go_wp2_with (first
      | (go_at_call 12; refine (fixed_any _).mono ?_; rintro e w' ⟨rfl, rfl⟩)
      | (go_at_call 19; refine (cmp_any a b ha hb _).mono ?_; rintro e w' ⟨rfl, rfl⟩)
      | (go_at_call 20; refine (refCmp_any a b ha hb _).mono ?_; rintro e w' ⟨rfl, rfl⟩)
      | (go_at_call 11; refine (key_any _ (by assumption) _).mono ?_; rintro e w' ⟨rfl, rfl⟩)
      | simp only [fromb_nat])
    go_ret
    exact ⟨by simp; omega, rfl⟩
  · have e1 := cmpI_eq hk
    have e2 : cmpI (key b) (key b) = 0 := cmpI_eq rfl
    go_enter Try.func5, Try.ntmps5
    go_wp2_with (first
      | (go_at_call 12; refine (fixed_any _).mono ?_; rintro e w' ⟨rfl, rfl⟩)
      | (go_at_call 19; refine (cmp_any a b ha hb _).mono ?_; rintro e w' ⟨rfl, rfl⟩)
      | (go_at_call 20; refine (refCmp_any a b ha hb _).mono ?_; rintro e w' ⟨rfl, rfl⟩)
      | (go_at_call 11; refine (key_any _ (by assumption) _).mono ?_; rintro e w' ⟨rfl, rfl⟩)
      | simp only [fromb_nat])
    go_ret
    exact ⟨by simp, rfl⟩
  · have e1 := cmpI_gt hk
    go_enter Try.func5, Try.ntmps5
    go_wp2_with (first
      | (go_at_call 12; refine (fixed_any _).mono ?_; rintro e w' ⟨rfl, rfl⟩)
      | (go_at_call 19; refine (cmp_any a b ha hb _).mono ?_; rintro e w' ⟨rfl, rfl⟩)
      | (go_at_call 20; refine (refCmp_any a b ha hb _).mono ?_; rintro e w' ⟨rfl, rfl⟩)
      | (go_at_call 11; refine (key_any _ (by assumption) _).mono ?_; rintro e w' ⟨rfl, rfl⟩)
      | simp only [fromb_nat])
    go_ret
    exact ⟨by simp; omega, rfl⟩

theorem chains_any (a b c : Nat) (ha : a < 18446744073709551616) (hb : b < 18446744073709551616) (hc : c < 18446744073709551616) (w : World) :
    Calls Try.prog 7 #[.int .u64 (a : Int), .int .u64 (b : Int), .int .u64 (c : Int)] w fun e w' => e = .returned (.bool true) ∧ w = w' := by
  have e0 : cmpI (key a) (key a) = 0 := cmpI_eq rfl
  obtain ⟨x, hx⟩ : ∃ x, cmpI (key a) (key b) = x := ⟨_, rfl⟩
  obtain ⟨y, hy⟩ : ∃ y, cmpI (key b) (key c) = y := ⟨_, rfl⟩
  obtain ⟨z, hz⟩ : ∃ z, cmpI (key a) (key c) = z := ⟨_, rfl⟩
  obtain ⟨v, hv⟩ : ∃ v, cmpI (key b) (key a) = v := ⟨_, rfl⟩
  have all : (v = -x) ∧ ((x = -1 ∧ ((y = 1) ∨ (y = 0 ∧ z = -1) ∨ (y = -1 ∧ z = -1))) ∨ (x = 0 ∧ y = z) ∨ (x = 1 ∧ ((y = -1) ∨ (y = 0 ∧ z = 1) ∨ (y = 1 ∧ z = 1)))) ∧ (-1 ≤ y ∧ y ≤ 1) ∧ (-1 ≤ z ∧ z ≤ 1) := by
    unfold cmpI at hx hy hz hv
    split at hx <;> split at hy <;> split at hz <;> split at hv <;> (try split at hx) <;> (try split at hy) <;> (try split at hz) <;> (try split at hv) <;> omega
  obtain ⟨hvx, hxyz, hy3, hz3⟩ := all
  have X : x = -1 ∨ x = 0 ∨ x = 1 := by omega
  have Y : y = -1 ∨ y = 0 ∨ y = 1 := by omega
  have Z : z = -1 ∨ z = 0 ∨ z = 1 := by omega
  subst hvx
  rcases X with rfl | rfl | rfl <;> rcases Y with rfl | rfl | rfl <;> rcases Z with rfl | rfl | rfl <;> first
    | (exfalso; omega)
    | (clear hxyz hy3 hz3
       go_enter Try.func7, Try.ntmps7
       go_wp2_with (first
         | (go_at_call 12; refine (fixed_any _).mono ?_; rintro e w' ⟨rfl, rfl⟩)
         | (go_at_call 19; refine (cmp_any _ _ (by assumption) (by assumption) _).mono ?_; rintro e w' ⟨rfl, rfl⟩)
         | simp only [fromb_nat])
       go_ret
       exact ⟨rfl, rfl⟩)

end Go.Proofs.Ytogfoagnknkdaaa
