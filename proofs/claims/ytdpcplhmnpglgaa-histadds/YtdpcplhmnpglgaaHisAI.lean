/-
  HISTOGRAMS: the document's Add, of any histogram. Conditions: each number is of 64 bits with a sign.
-/
import Derived.Test.YtdpcplhmnpglgaaHisAG
import Derived.Test.YtdpcplhmnpglgaaHisAH
namespace Go.Proofs.Ytdpcplhmnpglgaa
open Go.RowKit

theorem right_kinds {k B C : Int} {lc lm : List Int} (hr : rightD ⟨k, B, C, lc, lm⟩ = true) :
    (k = 0 ∧ 1 ≤ B ∧ B ≤ 257 ∧ 2 ≤ C ∧ C ≤ 256 ∧ (lc.length : Int) = B * C ∧ lm.length = 0) ∨ (k = 1 ∧ 1 ≤ B ∧ B ≤ 257 ∧ C = 0 ∧ lc.length = 0 ∧ (lm.length : Int) = B * 3) := by
  unfold rightD at hr
  simp only [decide_eq_true_eq] at hr
  obtain ⟨h0, h1, h2⟩ := hr
  by_cases q0 : 1 ≤ B ∧ B ≤ 257 ∧ k = 0 ∧ 2 ≤ C ∧ C ≤ 256
  · have e1 : lenC k B C = B * C := if_pos q0
    have e2 : lenM k B C = 0 := if_neg (by omega)
    rw [e1] at h1
    rw [e2] at h2
    exact .inl ⟨q0.2.2.1, q0.1, q0.2.1, q0.2.2.2.1, q0.2.2.2.2, h1, by omega⟩
  · by_cases q1 : 1 ≤ B ∧ B ≤ 257 ∧ k = 1 ∧ C = 0
    · have e1 : lenC k B C = 0 := if_neg q0
      have e2 : lenM k B C = B := if_pos q1
      rw [e1] at h1
      rw [e2] at h2
      exact .inr ⟨q1.2.2.1, q1.1, q1.2.1, q1.2.2.2, by omega, h2⟩
    · have e1 : lenC k B C = 0 := if_neg q0
      have e2 : lenM k B C = 0 := if_neg q1
      rw [e1, e2] at h0
      exact absurd h0 (by decide)
theorem at_in {b B C t : Int} (h0 : 0 ≤ b) (h1 : b < B) (h2 : 2 ≤ C) (h4 : t < C) : 0 ≤ b * C ∧ b * C + t < B * C := by
  have p1 := Int.mul_nonneg h0 (show 0 ≤ C by omega)
  have p2 := Int.mul_le_mul_of_nonneg_right (show b ≤ B - 1 by omega) (show 0 ≤ C by omega)
  rw [Int.sub_mul, Int.one_mul] at p2
  omega

theorem radd_any (d : HD) (ac am : Option Addr) (nc cc nm cm : Nat) (b t v : Int) (w : World) (h : Reads d ac nc am nm w) (z1 : ac = none → cc = 0) (z2 : am = none → cm = 0) (ht : Whole t) (hvw : Whole v) :
    Calls Try.prog 15 #[.agg #[.int .i64 d.k, .int .i64 d.b, .int .i64 d.c, .slice ac nc cc, .slice am nm cm], .int .i64 b, .int .i64 t, .int .i64 v] w fun e w' => RAddP d b t v ac am w e w' := by
  obtain ⟨k, B, C, lc, lm⟩ := d
  show Calls Try.prog 15 #[.agg #[.int .i64 k, .int .i64 B, .int .i64 C, .slice ac nc cc, .slice am nm cm], .int .i64 b, .int .i64 t, .int .i64 v] w _
  cases hr : rightD ⟨k, B, C, lc, lm⟩
  · exact radd_wrong k B C lc lm ac am nc cc nm cm b t v w h z1 z2 hr
  · by_cases h0 : b < 0
    · exact radd_low k B C lc lm ac am nc cc nm cm b t v w h z1 z2 hr h0
    · by_cases hb : B ≤ b
      · exact radd_high k B C lc lm ac am nc cc nm cm b t v w h z1 z2 hr h0 hb
      · have hb : b < B := by omega
        have hc : lc.length = nc := h.nc
        have hm : lm.length = nm * 3 := h.nm
        rcases right_kinds hr with ⟨rfl, b1, b2, c1, c2, g1, g2⟩ | ⟨rfl, b1, b2, rfl, g1, g2⟩
        · by_cases t0 : t < 0
          · exact radd_under B C lc lm ac am nc cc nm cm b t v w h z1 z2 hr h0 hb t0
          · by_cases t1 : C ≤ t
            · by_cases t2 : 255 < t
              · exact radd_over B C lc lm ac am nc cc nm cm b t v w h z1 z2 hr h0 hb t0 t2 t1
              · exact radd_past B C lc lm ac am nc cc nm cm b t v w h z1 z2 hr h0 hb t0 t2 t1
            · have t1 : t < C := by omega
              have t2 : ¬ 255 < t := by omega
              by_cases v0 : v < 0
              · exact radd_less B C lc lm ac am nc cc nm cm b t v w h z1 z2 hr h0 hb t0 t2 t1 v0
              · have a0 := at_in (show 0 ≤ b by omega) hb c1 t1
                have m0 := mul_room b1 b2 c1 c2
                exact radd_0 B C lc lm ac am nc cc nm cm b t v w h z1 z2 hr h0 hb t0 t2 t1 v0 hvw (b * C) (b * C + t).toNat rfl (by omega) (by omega) _ rfl (by omega) (by omega)
        · by_cases v0 : v < 0
          · exact radd_minus B 0 lc lm ac am nc cc nm cm b t v w h z1 z2 hr h0 hb v0
          · obtain ⟨n, rfl⟩ : ∃ n : Nat, b = (n : Int) := ⟨b.toNat, by omega⟩
            exact radd_1 B lc lm ac am nc cc nm cm n t v w h z1 z2 hr hb v0 ht hvw (by omega) (by omega) (by omega)

theorem lm3_len' (l : List Int) (n : Nat) (x y z : Int) : (lm3 l n x y z).length = l.length := by unfold lm3; simp
theorem addD_len (d : HD) (b t v : Int) : (addD d b t v).lc.length = d.lc.length ∧ (addD d b t v).lm.length = d.lm.length := by
  unfold addD
  split
  · exact ⟨rfl, rfl⟩
  · split
    · exact ⟨rfl, lm3_len' _ _ _ _ _⟩
    · exact ⟨by simp, rfl⟩
theorem addD_zero (b t v : Int) : addE zD b t v = 8 ∧ addD zD b t v = zD := by
  have hr : rightD zD = false := by decide
  have hE : addE zD b t v = 8 := if_pos hr
  exact ⟨hE, if_pos (by rw [hE]; decide)⟩
end Go.Proofs.Ytdpcplhmnpglgaa
