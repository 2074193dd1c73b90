/-
  THE WALKS OF RankKeys, RankOf, RankOrder, RankChains: each returns true and leaves the world as it was. Condition: the numbers are of 64 bits.
-/
import Derived.Test.YtjaogmbeoldefaaRankFix
namespace Go.Proofs.Ytjaogmbeoldefaa
open Go.RowKit

theorem tb_key {b : Nat} (h : b < 18446744073709551616) : isK (key b) ∧ ofK (key b) = cln b := by
  have main : isK (key b) ∧ cln (tb (key b)) = cln b := by
    unfold isK
    by_cases hm : mis b
    · rw [key_mis hm]
      have e : cln b = 9221120237041090561 := if_pos hm
      rw [e]
      exact ⟨by decide +kernel, by decide +kernel⟩
    · by_cases hz : b % 9223372036854775808 = 0
      · have e : key b = 9223372036854775808 := (key_is hm h).2 hz
        have e2 : cln b = 0 := by unfold cln; rw [if_neg hm, if_pos hz]
        rw [e, e2]
        exact ⟨by decide +kernel, by decide +kernel⟩
      · have e2 : cln b = b := by unfold cln; rw [if_neg hm, if_neg hz]
        have e3 : tb (key b) = b := by
          by_cases hh : 9223372036854775808 ≤ b
          · rw [key_hi hm (by omega), e2]
            unfold mis at hm
            unfold tb
            rw [if_neg (by omega)]
            omega
          · rw [key_lo hm (by omega), e2]
            unfold tb
            rw [if_pos (by omega)]
            omega
        rw [e3]
        exact ⟨rfl, rfl⟩
  exact ⟨main.1, by unfold ofK; rw [if_pos main.1]; exact main.2⟩

theorem cln_cln {b : Nat} (h : b < 18446744073709551616) : cln (cln b) = cln b ∧ key (cln b) = key b := by
  by_cases hm : mis b
  · have e : cln b = 9221120237041090561 := if_pos hm
    rw [e, key_mis hm]
    exact ⟨by decide +kernel, by decide +kernel⟩
  · by_cases hz : b % 9223372036854775808 = 0
    · have e2 : cln b = 0 := by unfold cln; rw [if_neg hm, if_pos hz]
      rw [e2, (key_is hm h).2 hz]
      exact ⟨by decide +kernel, by decide +kernel⟩
    · have e2 : cln b = b := by unfold cln; rw [if_neg hm, if_neg hz]
      rw [e2]
      exact ⟨e2, rfl⟩
theorem ofK_yes {k : Nat} (h : k < 18446744073709551616) (hk : isK k) : cln (ofK k) = ofK k ∧ key (ofK k) = k ∧ ofK k < 18446744073709551616 := by
  have e : ofK k = cln (tb k) := if_pos hk
  rw [e]
  obtain ⟨e1, e2⟩ := cln_cln (tb_lt h)
  exact ⟨e1, e2.trans hk, cln_lt (tb_lt h)⟩

end Go.Proofs.Ytjaogmbeoldefaa
