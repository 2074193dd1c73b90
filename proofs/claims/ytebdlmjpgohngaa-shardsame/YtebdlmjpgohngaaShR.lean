/-
  WHAT ROWS COME TO, part by part, where their weights and targets are within the limits. No program.
-/
import Derived.Test.YtebdlmjpgohngaaMgC
import Derived.Test.YtebdlmjpgohngaaMgB
namespace Go.Proofs.Ytebdlmjpgohngaa
open Go.RowKit

/-- What the numbers are within, behind rows of so much weight. -/
structure Bw (j : Int) (d : HD) : Prop where
  right : rightD d = true
  c : ∀ i, i < d.lc.length → 0 ≤ d.lc.getD i 0 ∧ d.lc.getD i 0 ≤ j
  m0 : ∀ i, i < d.lm.length → i % 3 = 0 → 0 ≤ d.lm.getD i 0 ∧ d.lm.getD i 0 ≤ j
  m1 : ∀ i, i < d.lm.length → i % 3 = 1 → -(j * 1048576) ≤ d.lm.getD i 0 ∧ d.lm.getD i 0 ≤ j * 1048576
  m2 : ∀ i, i < d.lm.length → i % 3 = 2 → 0 ≤ d.lm.getD i 0 ∧ d.lm.getD i 0 ≤ j * 1099511627776
theorem Bw.mono {j k : Int} {d : HD} (h : Bw j d) (hk : j ≤ k) : Bw k d :=
  ⟨h.right, fun i hi => by have := h.c i hi; omega, fun i hi q => by have := h.m0 i hi q; omega, fun i hi q => by have := h.m1 i hi q; omega, fun i hi q => by have := h.m2 i hi q; omega⟩

/-- The error that the numbers have no part in. -/
def hE (d : HD) (bin t v : Int) : Int := if bin < 0 ∨ d.b ≤ bin then 5 else if d.k = 0 ∧ (t < 0 ∨ d.c ≤ t) then 5 else if v < 0 then 1 else 0
/-- What a place gets. -/
def dC (d : HD) (bin t v : Int) (i : Nat) : Int := if hE d bin t v = 0 ∧ d.k ≠ 1 ∧ i = place d bin t then v else 0
def dM (d : HD) (bin t v : Int) (i : Nat) : Int := if hE d bin t v = 0 ∧ d.k = 1 then (if i = bin.toNat * 3 then v else if i = bin.toNat * 3 + 1 then t * v else if i = bin.toNat * 3 + 2 then t * (t * v) else 0) else 0

theorem right_facts {d : HD} (h : rightD d = true) : (d.k = 0 ∧ 1 ≤ d.b ∧ d.b ≤ 257 ∧ 2 ≤ d.c ∧ d.c ≤ 256 ∧ (d.lc.length : Int) = d.b * d.c ∧ d.lm.length = 0) ∨ (d.k = 1 ∧ 1 ≤ d.b ∧ d.b ≤ 257 ∧ d.c = 0 ∧ d.lc.length = 0 ∧ (d.lm.length : Int) = d.b * 3) := by
  obtain ⟨q0, q1, q2⟩ := rightD_true h
  have h1 := lenC_in d.k d.b d.c
  have h2 := lenM_in d.k d.b d.c
  by_cases a : 1 ≤ d.b ∧ d.b ≤ 257 ∧ d.k = 0 ∧ 2 ≤ d.c ∧ d.c ≤ 256
  · have e1 : lenC d.k d.b d.c = d.b * d.c := if_pos a
    have e2 : lenM d.k d.b d.c = 0 := if_neg (by omega)
    exact .inl ⟨a.2.2.1, a.1, a.2.1, a.2.2.2.1, a.2.2.2.2, by rw [q1, e1], by rw [e2] at q2; omega⟩
  · have e1 : lenC d.k d.b d.c = 0 := if_neg a
    by_cases b : 1 ≤ d.b ∧ d.b ≤ 257 ∧ d.k = 1 ∧ d.c = 0
    · have e2 : lenM d.k d.b d.c = d.b := if_pos b
      exact .inr ⟨b.2.2.1, b.1, b.2.1, b.2.2.2, by rw [e1] at q1; omega, by rw [e2] at q2; omega⟩
    · have e2 : lenM d.k d.b d.c = 0 := if_neg b
      rw [e1, e2] at q0
      omega

theorem add_wrongE {d : HD} {bin t v : Int} (h : rightD d = true) (h0 : hE d bin t v ≠ 0) : addE d bin t v = hE d bin t v ∧ addD d bin t v = d := by
  have e : addE d bin t v = hE d bin t v := by
    unfold addE hE at *
    rw [if_neg (by rw [h]; decide)]
    by_cases a : bin < 0 ∨ d.b ≤ bin
    · rw [if_pos a, if_pos a]
    · rw [if_neg a] at h0 ⊢
      rw [if_neg a]
      by_cases b : d.k = 0 ∧ (t < 0 ∨ d.c ≤ t)
      · rw [if_pos b, if_pos b]
      · rw [if_neg b] at h0 ⊢
        rw [if_neg b]
        by_cases c : v < 0
        · rw [if_pos c, if_pos c]
        · rw [if_neg c] at h0
          exact absurd rfl h0
  exact ⟨e, if_pos (by rw [e]; exact h0)⟩
theorem hE_zero {d : HD} {bin t v : Int} (h : hE d bin t v = 0) : 0 ≤ bin ∧ bin < d.b ∧ ¬ (d.k = 0 ∧ (t < 0 ∨ d.c ≤ t)) ∧ 0 ≤ v := by
  unfold hE at h
  by_cases a : bin < 0 ∨ d.b ≤ bin
  · rw [if_pos a] at h; cases h
  · rw [if_neg a] at h
    by_cases b : d.k = 0 ∧ (t < 0 ∨ d.c ≤ t)
    · rw [if_pos b] at h; cases h
    · rw [if_neg b] at h
      by_cases c : v < 0
      · rw [if_pos c] at h; cases h
      · exact ⟨by omega, by omega, b, by omega⟩

/-- A fact that is added. -/
theorem bw_add {j : Int} {d : HD} {bin t v : Int} (h : Bw j d) (j0 : 0 ≤ j) (v1 : 0 ≤ v) (j1 : j + v ≤ 1048576) (t1 : -1048576 ≤ t) (t2 : t ≤ 1048576) :
    addE d bin t v = hE d bin t v ∧ Bw (j + v) (addD d bin t v) ∧ (addD d bin t v).k = d.k ∧ (addD d bin t v).b = d.b ∧ (addD d bin t v).c = d.c ∧ (addD d bin t v).lc.length = d.lc.length ∧ (addD d bin t v).lm.length = d.lm.length ∧
      (∀ i, i < d.lc.length → (addD d bin t v).lc.getD i 0 = d.lc.getD i 0 + dC d bin t v i) ∧ (∀ i, i < d.lm.length → (addD d bin t v).lm.getD i 0 = d.lm.getD i 0 + dM d bin t v i) := by
  by_cases hz : hE d bin t v = 0
  · obtain ⟨b0, b1, b2, v0⟩ := hE_zero hz
    have hA : addE d bin t v = if d.k = 1 then adE t v (d.lm.getD (bin.toNat * 3) 0) (d.lm.getD (bin.toNat * 3 + 1) 0) (d.lm.getD (bin.toNat * 3 + 2) 0) else plE (d.lc.getD (place d bin t) 0) v := by
      unfold addE
      rw [if_neg (by rw [h.right]; decide), if_neg (by omega), if_neg b2, if_neg (by omega)]
    rcases right_facts h.right with ⟨k, q1, q2, q3, q4, q5, q6⟩ | ⟨k, q1, q2, q3, q4, q5⟩
    · have k1 : ¬ d.k = 1 := by omega
      rw [if_neg k1] at hA
      have hp : place d bin t < d.lc.length := by
        have h1 := Int.mul_le_mul_of_nonneg_right (show bin + 1 ≤ d.b by omega) (show 0 ≤ d.c by omega)
        rw [Int.add_mul] at h1
        have h2 := Int.mul_nonneg b0 (show 0 ≤ d.c by omega)
        unfold place
        omega
      have hc := h.c _ hp
      have hf : -9223372036854775808 ≤ d.lc.getD (place d bin t) 0 + v ∧ d.lc.getD (place d bin t) 0 + v < 9223372036854775808 := by omega
      have hA0 : addE d bin t v = 0 := by rw [hA]; exact fitE_yes hf
      have hD : addD d bin t v = ⟨d.k, d.b, d.c, d.lc.set (place d bin t) (d.lc.getD (place d bin t) 0 + v), d.lm⟩ := by
        unfold addD
        rw [if_neg (by rw [hA0]; decide), if_neg k1]
        unfold plV
        rw [fitV_yes hf]
      have hg : ∀ i, i < d.lc.length → (d.lc.set (place d bin t) (d.lc.getD (place d bin t) 0 + v)).getD i 0 = d.lc.getD i 0 + dC d bin t v i := by
        intro i hi
        unfold dC
        by_cases e : place d bin t = i
        · subst e
          rw [if_pos ⟨hz, k1, rfl⟩]
          simp [List.getD_eq_getElem?_getD, hi]
        · rw [if_neg (by rintro ⟨_, _, q⟩; exact e q.symm)]
          simp [List.getD_eq_getElem?_getD, e]
      rw [hD]
      refine ⟨by rw [hA0, hz], ⟨?_, ?_, ?_, ?_, ?_⟩, rfl, rfl, rfl, by simp, rfl, hg, ?_⟩
      · have := h.right
        simp only [rightD, List.length_set] at this ⊢
        exact this
      · intro i hi
        simp only [List.length_set] at hi
        show 0 ≤ (d.lc.set _ _).getD i 0 ∧ (d.lc.set _ _).getD i 0 ≤ _
        rw [hg i hi]
        have := h.c i hi
        unfold dC
        split <;> omega
      · intro i hi; simp only [q6] at hi; omega
      · intro i hi; simp only [q6] at hi; omega
      · intro i hi; simp only [q6] at hi; omega
      · intro i hi; simp only [q6] at hi; omega
    · rw [if_pos k] at hA
      have hn : bin.toNat * 3 + 2 < d.lm.length := by omega
      have f0 := h.m0 (bin.toNat * 3) (by omega) (by omega)
      have f1 := h.m1 (bin.toNat * 3 + 1) (by omega) (by omega)
      have f2 := h.m2 (bin.toNat * 3 + 2) (by omega) (by omega)
      have p1a := Int.mul_le_mul_of_nonneg_right t2 v1
      have p1b := Int.mul_le_mul_of_nonneg_right t1 v1
      have ptt : t * t ≤ 1048576 * 1048576 := by
        have a1 := Int.mul_le_mul (show (t.natAbs : Int) ≤ 1048576 by omega) (show (t.natAbs : Int) ≤ 1048576 by omega) (by omega) (by omega)
        rw [← Int.natCast_mul, Int.natAbs_mul_self] at a1
        exact a1
      have p2 : t * (t * v) ≤ 1099511627776 * v := by
        rw [← Int.mul_assoc]
        exact Int.mul_le_mul_of_nonneg_right ptt v1
      have p3 : 0 ≤ t * (t * v) := by
        rw [← Int.mul_assoc]
        exact Int.mul_nonneg (by rcases Int.le_total 0 t with q | q; exact Int.mul_nonneg q q; exact Int.mul_nonneg_of_nonpos_of_nonpos q q) v0
      have g1 : -9223372036854775808 ≤ t * v ∧ t * v < 9223372036854775808 := by omega
      have g2 : -9223372036854775808 ≤ t * (t * v) ∧ t * (t * v) < 9223372036854775808 := by omega
      have s0 : -9223372036854775808 ≤ d.lm.getD (bin.toNat * 3) 0 + v ∧ d.lm.getD (bin.toNat * 3) 0 + v < 9223372036854775808 := by omega
      have s1 : -9223372036854775808 ≤ d.lm.getD (bin.toNat * 3 + 1) 0 + t * v ∧ d.lm.getD (bin.toNat * 3 + 1) 0 + t * v < 9223372036854775808 := by omega
      have s2 : -9223372036854775808 ≤ d.lm.getD (bin.toNat * 3 + 2) 0 + t * (t * v) ∧ d.lm.getD (bin.toNat * 3 + 2) 0 + t * (t * v) < 9223372036854775808 := by omega
      have hA0 : addE d bin t v = 0 := by
        rw [hA]
        unfold adE plE
        rw [if_pos (fitE_yes g1), if_pos (fitE_yes g2), fitE_yes s0, fitE_yes s1, fitE_yes s2]
        rfl
      have hD : addD d bin t v = ⟨d.k, d.b, d.c, d.lc, lm3 d.lm bin.toNat (d.lm.getD (bin.toNat * 3) 0 + v) (d.lm.getD (bin.toNat * 3 + 1) 0 + t * v) (d.lm.getD (bin.toNat * 3 + 2) 0 + t * (t * v))⟩ := by
        unfold addD
        rw [if_neg (by rw [hA0]; decide), if_pos k]
        unfold plV
        rw [fitV_yes s0, fitV_yes s1, fitV_yes s2]
      have hg : ∀ i, i < d.lm.length → (lm3 d.lm bin.toNat (d.lm.getD (bin.toNat * 3) 0 + v) (d.lm.getD (bin.toNat * 3 + 1) 0 + t * v) (d.lm.getD (bin.toNat * 3 + 2) 0 + t * (t * v))).getD i 0 = d.lm.getD i 0 + dM d bin t v i := by
        intro i hi
        have eM : dM d bin t v i = if i = bin.toNat * 3 then v else if i = bin.toNat * 3 + 1 then t * v else if i = bin.toNat * 3 + 2 then t * (t * v) else 0 := if_pos ⟨hz, k⟩
        rw [lm3_get _ _ _ _ _ hn, eM]
        by_cases u0 : i = bin.toNat * 3
        · rw [if_pos u0, if_pos u0, u0]
        · rw [if_neg u0, if_neg u0]
          by_cases u1 : i = bin.toNat * 3 + 1
          · rw [if_pos u1, if_pos u1, u1]
          · rw [if_neg u1, if_neg u1]
            by_cases u2 : i = bin.toNat * 3 + 2
            · rw [if_pos u2, if_pos u2, u2]
            · rw [if_neg u2, if_neg u2]; omega
      rw [hD]
      have hgM : ∀ i, i < d.lm.length → (i % 3 = 0 → 0 ≤ dM d bin t v i ∧ dM d bin t v i ≤ v) ∧ (i % 3 = 1 → -(v * 1048576) ≤ dM d bin t v i ∧ dM d bin t v i ≤ v * 1048576) ∧ (i % 3 = 2 → 0 ≤ dM d bin t v i ∧ dM d bin t v i ≤ v * 1099511627776) := by
        intro i hi
        unfold dM
        rw [if_pos ⟨hz, k⟩]
        refine ⟨fun q => ?_, fun q => ?_, fun q => ?_⟩
        · split
          · omega
          · rw [if_neg (by omega), if_neg (by omega)]; omega
        · rw [if_neg (by omega)]
          split
          · omega
          · rw [if_neg (by omega)]; omega
        · rw [if_neg (by omega), if_neg (by omega)]
          split <;> omega
      refine ⟨by rw [hA0, hz], ⟨?_, ?_, ?_, ?_, ?_⟩, rfl, rfl, rfl, rfl, lm3_len _ _ _ _ _, ?_, hg⟩
      · have := h.right
        simp only [rightD, lm3_len] at this ⊢
        exact this
      · intro i hi; simp only [q4] at hi; omega
      · intro i hi q
        simp only [lm3_len] at hi
        show 0 ≤ (lm3 _ _ _ _ _).getD i 0 ∧ (lm3 _ _ _ _ _).getD i 0 ≤ _
        rw [hg i hi]
        have a1 := h.m0 i hi q
        have a2 := (hgM i hi).1 q
        omega
      · intro i hi q
        simp only [lm3_len] at hi
        show _ ≤ (lm3 _ _ _ _ _).getD i 0 ∧ (lm3 _ _ _ _ _).getD i 0 ≤ _
        rw [hg i hi]
        have a1 := h.m1 i hi q
        have a2 := (hgM i hi).2.1 q
        omega
      · intro i hi q
        simp only [lm3_len] at hi
        show 0 ≤ (lm3 _ _ _ _ _).getD i 0 ∧ (lm3 _ _ _ _ _).getD i 0 ≤ _
        rw [hg i hi]
        have a1 := h.m2 i hi q
        have a2 := (hgM i hi).2.2 q
        omega
      · intro i hi; simp only [q4] at hi; omega
  · obtain ⟨e1, e2⟩ := add_wrongE h.right hz
    rw [e2]
    refine ⟨e1, h.mono (by omega), rfl, rfl, rfl, rfl, rfl, fun i hi => ?_, fun i hi => ?_⟩
    · unfold dC; rw [if_neg (by rintro ⟨q, _⟩; exact hz q)]; omega
    · unfold dM; rw [if_neg (by rintro ⟨q, _⟩; exact hz q)]; omega

/-- One is the sum of two others. -/
structure SumD (a f r : HD) : Prop where
  fk : a.k = f.k
  fb : a.b = f.b
  fc : a.c = f.c
  rk : a.k = r.k
  rb : a.b = r.b
  rc : a.c = r.c
  fl : a.lc.length = f.lc.length
  fm : a.lm.length = f.lm.length
  rl : a.lc.length = r.lc.length
  rm : a.lm.length = r.lm.length
  c : ∀ i, i < a.lc.length → a.lc.getD i 0 = f.lc.getD i 0 + r.lc.getD i 0
  m : ∀ i, i < a.lm.length → a.lm.getD i 0 = f.lm.getD i 0 + r.lm.getD i 0
theorem hE_same {a f : HD} (k : a.k = f.k) (b : a.b = f.b) (c : a.c = f.c) (bin t v : Int) : hE a bin t v = hE f bin t v := by unfold hE; rw [k, b, c]
theorem dC_same {a f : HD} (k : a.k = f.k) (b : a.b = f.b) (c : a.c = f.c) (bin t v : Int) (i : Nat) : dC a bin t v i = dC f bin t v i := by
  unfold dC place; rw [hE_same k b c, k, c]
theorem dM_same {a f : HD} (k : a.k = f.k) (b : a.b = f.b) (c : a.c = f.c) (bin t v : Int) (i : Nat) : dM a bin t v i = dM f bin t v i := by
  unfold dM; rw [hE_same k b c, k]
/-- What holds behind so many facts. -/
structure Inw (j : Int) (a f r : HD) : Prop where
  s : SumD a f r
  a : Bw j a
  f : Bw j f
  r : Bw j r
theorem Inw.first {j : Int} {a f r : HD} {bin t v : Int} (h : Inw j a f r) (j0 : 0 ≤ j) (v1 : 0 ≤ v) (j1 : j + v ≤ 1048576) (t1 : -1048576 ≤ t) (t2 : t ≤ 1048576) :
    addE a bin t v = addE f bin t v ∧ addE f bin t v ≠ 6 ∧ Inw (j + v) (addD a bin t v) (addD f bin t v) r := by
  obtain ⟨a1, a2, a3, a4, a5, a6, a7, a8, a9⟩ := bw_add h.a j0 v1 j1 t1 t2 (bin := bin)
  obtain ⟨f1, f2, f3, f4, f5, f6, f7, f8, f9⟩ := bw_add h.f j0 v1 j1 t1 t2 (bin := bin)
  have s := h.s
  refine ⟨by rw [a1, f1]; exact hE_same s.fk s.fb s.fc bin t v, ?_, ⟨⟨by rw [a3, f3, s.fk], by rw [a4, f4, s.fb], by rw [a5, f5, s.fc], by rw [a3, s.rk], by rw [a4, s.rb], by rw [a5, s.rc], by rw [a6, f6, s.fl], by rw [a7, f7, s.fm], by rw [a6, s.rl], by rw [a7, s.rm], ?_, ?_⟩, a2, f2, h.r.mono (by omega)⟩⟩
  · rw [f1]; unfold hE
    split
    · decide
    · split
      · decide
      · split <;> decide
  · intro i hi
    rw [a6] at hi
    rw [a8 i hi, f8 i (by rw [← s.fl]; exact hi), s.c i hi, dC_same s.fk s.fb s.fc]
    omega
  · intro i hi
    rw [a7] at hi
    rw [a9 i hi, f9 i (by rw [← s.fm]; exact hi), s.m i hi, dM_same s.fk s.fb s.fc]
    omega
theorem SumD.swap {a f r : HD} (s : SumD a f r) : SumD a r f :=
  ⟨s.rk, s.rb, s.rc, s.fk, s.fb, s.fc, s.rl, s.rm, s.fl, s.fm, fun i hi => by rw [s.c i hi, Int.add_comm], fun i hi => by rw [s.m i hi, Int.add_comm]⟩
theorem Inw.swap {j : Int} {a f r : HD} (h : Inw j a f r) : Inw j a r f := ⟨h.s.swap, h.a, h.r, h.f⟩
theorem Inw.more {j k : Int} {a f r : HD} (h : Inw j a f r) (hk : j ≤ k) : Inw k a f r := ⟨h.s, h.a.mono hk, h.f.mono hk, h.r.mono hk⟩
theorem Inw.rest {j : Int} {a f r : HD} {bin t v : Int} (h : Inw j a f r) (j0 : 0 ≤ j) (v1 : 0 ≤ v) (j1 : j + v ≤ 1048576) (t1 : -1048576 ≤ t) (t2 : t ≤ 1048576) :
    addE a bin t v = addE r bin t v ∧ addE r bin t v ≠ 6 ∧ Inw (j + v) (addD a bin t v) f (addD r bin t v) := by
  obtain ⟨h1, h2, h3⟩ := h.swap.first j0 v1 j1 t1 t2 (bin := bin)
  exact ⟨h1, h2, h3.swap⟩

theorem Inw.start {d : HD} (hr : rightD d = true) (hc : ∀ i, d.lc.getD i 0 = 0) (hm : ∀ i, d.lm.getD i 0 = 0) : Inw 0 d d d := by
  have b : Bw 0 d := ⟨hr, fun i _ => by rw [hc]; omega, fun i _ _ => by rw [hm]; omega, fun i _ _ => by rw [hm]; omega, fun i _ _ => by rw [hm]; omega⟩
  exact ⟨⟨rfl, rfl, rfl, rfl, rfl, rfl, rfl, rfl, rfl, rfl, fun i _ => by rw [hc]; rfl, fun i _ => by rw [hm]; rfl⟩, b, b, b⟩

theorem like_of {a b : HD} (h1 : rightD a = true) (h2 : rightD b = true) (hk : a.k = b.k) (hb : a.b = b.b) (hc : a.c = b.c) : likeD a b = true := by simp [likeD, h1, h2, hk, hb, hc]
theorem both_zero {W : Ways} {a b : HD} (hl : likeD a b = true) (h1 : W.ec a b = 0) (h2 : W.em a b = 0) : bothE W a b = 0 := by
  unfold bothE; rw [if_neg (by rw [hl]; decide), if_pos h1]; exact h2

/-- The parts merged are the whole. -/
theorem Inw.merged {j : Int} {a f r : HD} (h : Inw j a f r) (j0 : 0 ≤ j) (j1 : j ≤ 1048576) : bothE plusW f r = 0 ∧ bothD plusW f r = a := by
  have s := h.s
  have hl : likeD f r = true := like_of h.f.right h.r.right (by rw [← s.fk, s.rk]) (by rw [← s.fb, s.rb]) (by rw [← s.fc, s.rc])
  have h1 : plusW.ec f r = 0 := by
    unfold Ways.ec
    refine firstE_zero.2 fun i hi => ?_
    have := h.a.c i (by rw [s.fl]; exact hi)
    rw [s.c i (by rw [s.fl]; exact hi)] at this
    exact fitE_yes (by omega)
  have h2 : plusW.em f r = 0 := by
    unfold Ways.em
    refine firstE_zero.2 fun i hi => ?_
    have e0 := h.a.m0 (i * 3) (by rw [s.fm]; omega) (by omega)
    have e1 := h.a.m1 (i * 3 + 1) (by rw [s.fm]; omega) (by omega)
    have e2 := h.a.m2 (i * 3 + 2) (by rw [s.fm]; omega) (by omega)
    rw [s.m _ (by rw [s.fm]; omega)] at e0 e1 e2
    refine or3_zero.2 ⟨?_, ?_, ?_⟩
    · show fitE (f.lm.getD (i * 3) 0 + r.lm.getD (i * 3) 0) = 0
      exact fitE_yes (by omega)
    · show fitE (f.lm.getD (i * 3 + 1) 0 + r.lm.getD (i * 3 + 1) 0) = 0
      exact fitE_yes (by omega)
    · show fitE (f.lm.getD (i * 3 + 2) 0 + r.lm.getD (i * 3 + 2) 0) = 0
      exact fitE_yes (by omega)
  have h0 := both_zero hl h1 h2
  refine ⟨h0, ?_⟩
  obtain ⟨c1, c2, c3⟩ := both_c h0
  obtain ⟨m1, m2, m3⟩ := both_m h0
  obtain ⟨k1, k2, k3⟩ := both_head h0
  refine HD.ext' (by rw [k1, s.fk]) (by rw [k2, s.fb]) (by rw [k3, s.fc]) (ext_getD (by rw [c1, s.fl]) fun i hi => ?_) (ext_getD (by rw [m1, s.fm]) fun i hi => ?_)
  · rw [c1] at hi
    rw [c3 i hi, s.c i (by rw [s.fl]; exact hi)]
  · rw [m1] at hi
    rw [m3 i hi, s.m i (by rw [s.fm]; exact hi)]

/-- What rows come to, one by one. -/
def foldD (b t v : Int → Int) (d : HD) (rows : List Int) : HD := rows.foldl (fun d x => addD d (b x) (t x) (v x)) d
/-- How much weight rows have. -/
def wsum (v : Int → Int) (rows : List Int) : Int := (rows.map v).sum
/-- The first error of rows. -/
def eL (z : HD) (b t v : Int → Int) : List Int → Int
  | [] => 0
  | x :: r => if hE z (b x) (t x) (v x) = 0 then eL z b t v r else hE z (b x) (t x) (v x)
theorem eL_append (z : HD) (b t v : Int → Int) : ∀ A B, eL z b t v (A ++ B) = if eL z b t v A = 0 then eL z b t v B else eL z b t v A
  | [], B => by simp [eL]
  | x :: A, B => by
    show (if hE z (b x) (t x) (v x) = 0 then eL z b t v (A ++ B) else hE z (b x) (t x) (v x)) = _
    rw [eL_append z b t v A B]
    show _ = if (if hE z (b x) (t x) (v x) = 0 then eL z b t v A else hE z (b x) (t x) (v x)) = 0 then eL z b t v B else (if hE z (b x) (t x) (v x) = 0 then eL z b t v A else hE z (b x) (t x) (v x))
    by_cases h : hE z (b x) (t x) (v x) = 0
    · simp [h]
    · simp [h]
/-- What is asked of a row. -/
def Ok (t v : Int → Int) (x : Int) : Prop := 0 ≤ v x ∧ -1048576 ≤ t x ∧ t x ≤ 1048576
theorem wsum_cons (v : Int → Int) (x : Int) (r : List Int) : wsum v (x :: r) = v x + wsum v r := by simp [wsum]
theorem wsum_append (v : Int → Int) (A B : List Int) : wsum v (A ++ B) = wsum v A + wsum v B := by simp [wsum]
theorem wsum_nonneg {t v : Int → Int} : ∀ {rows : List Int}, (∀ x ∈ rows, Ok t v x) → 0 ≤ wsum v rows
  | [], _ => by simp [wsum]
  | x :: r, h => by
    rw [wsum_cons]
    have h1 := (h x (by simp)).1
    have h2 := wsum_nonneg (t := t) (v := v) (rows := r) fun y hy => h y (by simp [hy])
    omega
theorem foldD_append (b t v : Int → Int) (d : HD) (A B : List Int) : foldD b t v d (A ++ B) = foldD b t v (foldD b t v d A) B := by simp [foldD]

/-- All rows: the sum, or the first error. -/
theorem rows_fold (s : SD) (c : Nat) (b t v : Int → Int) (z : HD) : ∀ (rows : List Int) (j : Int) (d : HD), (∀ x ∈ rows, Ok t v x ∧ ∀ d, stepE s c x d = addE d (b x) (t x) (v x) ∧ stepD s c x d = addD d (b x) (t x) (v x)) → 0 ≤ j → j + wsum v rows ≤ 1048576 →
    Bw j d → d.k = z.k → d.b = z.b → d.c = z.c → rowsF s c rows d = if eL z b t v rows = 0 then (foldD b t v d rows, 0) else (zD, eL z b t v rows)
  | [], j, d, _, _, _, _, _, _, _ => by simp [rowsF, eL, foldD]
  | x :: r, j, d, h, j0, j1, hb, ek, eb, ec => by
    obtain ⟨⟨v0, t1, t2⟩, hs⟩ := h x (by simp)
    have hn := wsum_nonneg (t := t) (v := v) (rows := r) fun y hy => (h y (by simp [hy])).1
    rw [wsum_cons] at j1
    obtain ⟨a1, a2, a3, a4, a5, -⟩ := bw_add hb j0 v0 (by omega) t1 t2 (bin := b x)
    have he : hE d (b x) (t x) (v x) = hE z (b x) (t x) (v x) := hE_same ek eb ec _ _ _
    show (if stepE s c x d = 0 then rowsF s c r (stepD s c x d) else (zD, stepE s c x d)) = _
    rw [(hs d).1, (hs d).2, a1, he]
    by_cases h0 : hE z (b x) (t x) (v x) = 0
    · rw [if_pos h0, rows_fold s c b t v z r (j + v x) _ (fun y hy => h y (by simp [hy])) (by omega) (by omega) a2 (a3.trans ek) (a4.trans eb) (a5.trans ec)]
      have e1 : eL z b t v (x :: r) = eL z b t v r := if_pos h0
      rw [e1]
      rfl
    · rw [if_neg h0]
      have e1 : eL z b t v (x :: r) = hE z (b x) (t x) (v x) := if_neg h0
      rw [e1, if_neg h0]

theorem inw_first (b t v : Int → Int) : ∀ (A : List Int) (j : Int) (a f r : HD), (∀ x ∈ A, Ok t v x) → 0 ≤ j → j + wsum v A ≤ 1048576 → Inw j a f r → Inw (j + wsum v A) (foldD b t v a A) (foldD b t v f A) r
  | [], j, a, f, r, _, _, _, h => by simpa [wsum, foldD] using h
  | x :: A, j, a, f, r, hk, j0, j1, h => by
    obtain ⟨v0, t1, t2⟩ := hk x (by simp)
    have hn := wsum_nonneg (t := t) (v := v) (rows := A) fun y hy => hk y (by simp [hy])
    rw [wsum_cons] at j1 ⊢
    have h1 := (h.first j0 v0 (by omega) t1 t2 (bin := b x)).2.2
    have h2 := inw_first b t v A (j + v x) _ _ _ (fun y hy => hk y (by simp [hy])) (by omega) (by omega) h1
    rw [show j + v x + wsum v A = j + (v x + wsum v A) by omega] at h2
    exact h2
theorem inw_rest (b t v : Int → Int) (A : List Int) (j : Int) (a f r : HD) (hk : ∀ x ∈ A, Ok t v x) (j0 : 0 ≤ j) (j1 : j + wsum v A ≤ 1048576) (h : Inw j a f r) : Inw (j + wsum v A) (foldD b t v a A) f (foldD b t v r A) :=
  (inw_first b t v A j a r f hk j0 j1 h.swap).swap

/-- Two parts merged are what both come to. -/
theorem merge_two (b t v : Int → Int) (z : HD) (hz : Inw 0 z z z) (A B : List Int) (hA : ∀ x ∈ A, Ok t v x) (hB : ∀ x ∈ B, Ok t v x) (hw : wsum v A + wsum v B ≤ 1048576) :
    bothE plusW (foldD b t v z A) (foldD b t v z B) = 0 ∧ bothD plusW (foldD b t v z A) (foldD b t v z B) = foldD b t v z (A ++ B) := by
  have nA := wsum_nonneg hA
  have nB := wsum_nonneg hB
  have h1 := inw_first b t v A 0 z z z hA (Int.le_refl _) (by omega) hz
  have h2 := inw_rest b t v B _ _ _ _ hB (by omega) (by omega) h1
  rw [← foldD_append] at h2
  exact h2.merged (by omega) (by omega)

theorem mergeF_snoc : ∀ (L : List HD) (D d : HD), (mergeF D L).2 = 0 → bothE plusW (mergeF D L).1 d = 0 → mergeF D (L ++ [d]) = (bothD plusW (mergeF D L).1 d, 0)
  | [], D, d, _, h => by
    have h' : bothE plusW D d = 0 := h
    show (if bothE plusW D d = 0 then mergeF (bothD plusW D d) [] else (zD, bothE plusW D d)) = _
    rw [if_pos h']; rfl
  | y :: L, D, d, h1, h2 => by
    have e : mergeF D (y :: L) = if bothE plusW D y = 0 then mergeF (bothD plusW D y) L else (zD, bothE plusW D y) := rfl
    by_cases h0 : bothE plusW D y = 0
    · rw [e, if_pos h0] at h1 h2
      show (if bothE plusW D y = 0 then mergeF (bothD plusW D y) (L ++ [d]) else (zD, bothE plusW D y)) = _
      rw [e, if_pos h0, if_pos h0]
      exact mergeF_snoc L _ d h1 h2
    · rw [e, if_neg h0] at h1
      exact absurd h1 h0

theorem take_part (f : Nat → Nat) (rows : List Int) (i : Nat) (h : f i ≤ f (i + 1)) : rows.take (f i) ++ partF f rows i = rows.take (f (i + 1)) := by
  unfold partF
  rw [show f (i + 1) = f i + (f (i + 1) - f i) by omega, List.take_add]
  simp
theorem errF_parts (z : HD) (b t v : Int → Int) (f : Nat → Nat) (rows : List Int) (h0 : f 0 = 0) (hf : ∀ i, f i ≤ f (i + 1)) : ∀ k, errF (fun i => eL z b t v (partF f rows i)) (List.range k) = eL z b t v (rows.take (f k))
  | 0 => by rw [h0]; simp [eL, errF]
  | k + 1 => by
    have ih := errF_parts z b t v f rows h0 hf k
    rw [List.range_succ, ← take_part f rows k (hf k), eL_append, ← ih]
    generalize List.range k = L
    clear ih
    induction L with
    | nil =>
      simp [errF]
      intro h; exact h.symm
    | cons x L ih =>
      show (if eL z b t v (partF f rows x) = 0 then errF _ (L ++ [k]) else eL z b t v (partF f rows x)) = if (if eL z b t v (partF f rows x) = 0 then errF _ L else eL z b t v (partF f rows x)) = 0 then _ else (if eL z b t v (partF f rows x) = 0 then errF _ L else eL z b t v (partF f rows x))
      by_cases h : eL z b t v (partF f rows x) = 0
      · simp only [h, if_true]; exact ih
      · simp only [h, if_false]
theorem merge_parts (b t v : Int → Int) (z : HD) (hz : Inw 0 z z z) (f : Nat → Nat) (rows : List Int) (h0 : f 0 = 0) (hf : ∀ i, f i ≤ f (i + 1)) (hk : ∀ x ∈ rows, Ok t v x) (hw : wsum v rows ≤ 1048576) :
    ∀ k, mergeF (foldD b t v z (partF f rows 0)) (((List.range (k + 1)).map fun i => foldD b t v z (partF f rows i)).drop 1) = (foldD b t v z (rows.take (f (k + 1))), 0)
  | 0 => by
    rw [← take_part f rows 0 (hf 0), h0]
    simp [List.range_succ, mergeF]
  | k + 1 => by
    have ih := merge_parts b t v z hz f rows h0 hf hk hw k
    have e : ((List.range (k + 1 + 1)).map fun i => foldD b t v z (partF f rows i)).drop 1 = ((List.range (k + 1)).map fun i => foldD b t v z (partF f rows i)).drop 1 ++ [foldD b t v z (partF f rows (k + 1))] := by
      rw [List.range_succ (n := k + 1), List.map_append, List.drop_append_of_le_length (by simp)]
      rfl
    have hA : ∀ x ∈ rows.take (f (k + 1)), Ok t v x := fun x hx => hk x (List.mem_of_mem_take hx)
    have hB : ∀ x ∈ partF f rows (k + 1), Ok t v x := fun x hx => hk x (List.mem_of_mem_drop (List.mem_of_mem_take hx))
    have hs : wsum v (rows.take (f (k + 1))) + wsum v (partF f rows (k + 1)) ≤ 1048576 := by
      rw [← wsum_append, take_part f rows (k + 1) (hf _)]
      have h1 : rows = rows.take (f (k + 1 + 1)) ++ rows.drop (f (k + 1 + 1)) := (List.take_append_drop _ _).symm
      rw [h1, wsum_append] at hw
      have := wsum_nonneg (t := t) (v := v) (rows := rows.drop (f (k + 1 + 1))) fun x hx => hk x (List.mem_of_mem_drop hx)
      omega
    obtain ⟨m1, m2⟩ := merge_two b t v z hz _ _ hA hB hs
    rw [e, mergeF_snoc _ _ _ (by rw [ih]) (by rw [ih]; exact m1), ih]
    show (bothD plusW (foldD b t v z (rows.take (f (k + 1)))) (foldD b t v z (partF f rows (k + 1))), (0 : Int)) = _
    rw [m2, take_part f rows (k + 1) (hf _)]

theorem replicate_zero (n i : Nat) : (List.replicate n (0 : Int)).getD i 0 = 0 := by
  by_cases h : i < n
  · simp [List.getD_eq_getElem?_getD, h]
  · simp [List.getD_eq_getElem?_getD, show n ≤ i by omega]

/-- IN HOWEVER MANY PARTS, THE SAME. -/
theorem parts_same (s : SD) (col : Int) (rows : List Int) (k : Nat) (k1 : 1 ≤ k) (k2 : k ≤ 64)
    (hr : ∀ x ∈ rows, 0 ≤ x ∧ x < (s.T.length : Int) ∧ 0 ≤ s.W.getD x.toNat 0 ∧ -1048576 ≤ s.T.getD x.toNat 0 ∧ s.T.getD x.toNat 0 ≤ 1048576) (hw : wsum (fun x => s.W.getD x.toNat 0) rows ≤ 1048576) : partsF s col rows (k : Int) = histF s col rows := by
  unfold partsF
  rw [show partsK (rows.length : Int) (k : Int) = k by unfold partsK; rw [if_neg (by omega)]; rfl, Int.toNat_natCast]
  have f0 := cutF_zero rows.length k
  have fk := cutF_all rows.length k (by omega)
  have fm := fun i => cutF_mono rows.length k i
  generalize cutF rows.length k = f at *
  by_cases h : (col < 0 ∨ s.q ≤ col) ∨ rightS s = false
  · have hh : ∀ rows, histF s col rows = (zD, 8) := fun rows => if_pos h
    unfold partsG
    simp only [hh]
    have e := errF_first (he := fun _ => (8 : Int)) (x := 0) (by decide) (pre := []) (l := List.range k) ⟨(List.range k).drop 1, by
      obtain ⟨m, rfl⟩ : ∃ m, k = m + 1 := ⟨k - 1, by omega⟩
      rw [List.range_succ_eq_map]; rfl⟩ (fun i h => by cases h)
    rw [if_neg (by omega), e, if_neg (by decide)]
  · have h1 : rightS s = true := by
      cases hh : rightS s
      · exact absurd (.inr hh) h
      · rfl
    obtain ⟨-, hf, hT, hW⟩ := rightS_are h1
    obtain ⟨z1, z2, z3, -, -⟩ := new_ok s.k (s.b + 1) s.c (chk_right (rightS_are h1).1)
    have hh : ∀ rows, histF s col rows = rowsF s col.toNat rows (zeroH s.k (s.b + 1) s.c) := fun rows => if_neg h
    have hz := Inw.start z1 (fun i => replicate_zero _ i) (fun i => replicate_zero _ i)
    generalize zeroH s.k (s.b + 1) s.c = z at *
    obtain ⟨b, hb⟩ : ∃ b : Int → Int, (fun x => s.C.getD (col.toNat * s.r.toNat + x.toNat) 0) = b := ⟨_, rfl⟩
    obtain ⟨t, ht⟩ : ∃ t : Int → Int, (fun x => s.T.getD x.toNat 0) = t := ⟨_, rfl⟩
    obtain ⟨v, hv⟩ : ∃ v : Int → Int, (fun x => s.W.getD x.toNat 0) = v := ⟨_, rfl⟩
    have hok : ∀ x ∈ rows, Ok t v x ∧ ∀ d, stepE s col.toNat x d = addE d (b x) (t x) (v x) ∧ stepD s col.toNat x d = addD d (b x) (t x) (v x) := by
      intro x hx
      obtain ⟨a1, a2, a3, a4, a5⟩ := hr x hx
      refine ⟨⟨by rw [← hv]; exact a3, by rw [← ht]; exact a4, by rw [← ht]; exact a5⟩, fun d => ?_⟩
      rw [← hb, ← ht, ← hv]
      exact ⟨if_neg (by omega), if_neg (by omega)⟩
    rw [hv] at hw
    have hsub : ∀ A : List Int, (∀ x ∈ A, x ∈ rows) → wsum v A ≤ 1048576 → rowsF s col.toNat A z = if eL z b t v A = 0 then (foldD b t v z A, 0) else (zD, eL z b t v A) := fun A hA hwA =>
      rows_fold s col.toNat b t v z A 0 z (fun x hx => hok x (hA x hx)) (Int.le_refl _) (by omega) hz.a rfl rfl rfl
    have hpart : ∀ i, wsum v (partF f rows i) ≤ 1048576 := by
      intro i
      have h1 : rows = rows.take (f (i + 1)) ++ rows.drop (f (i + 1)) := (List.take_append_drop _ _).symm
      have h2 := wsum_nonneg (t := t) (v := v) (rows := rows.drop (f (i + 1))) fun x hx => (hok x (List.mem_of_mem_drop hx)).1
      have h3 := wsum_nonneg (t := t) (v := v) (rows := rows.take (f i)) fun x hx => (hok x (List.mem_of_mem_take hx)).1
      have h4 := wsum_append v (rows.take (f i)) (partF f rows i)
      rw [take_part f rows i (fm i)] at h4
      have h5 := wsum_append v (rows.take (f (i + 1))) (rows.drop (f (i + 1)))
      rw [← h1] at h5
      omega
    have hp : ∀ i, rowsF s col.toNat (partF f rows i) z = if eL z b t v (partF f rows i) = 0 then (foldD b t v z (partF f rows i), 0) else (zD, eL z b t v (partF f rows i)) := fun i =>
      hsub _ (fun x hx => List.mem_of_mem_drop (List.mem_of_mem_take hx)) (hpart i)
    have he : (fun i => (rowsF s col.toNat (partF f rows i) z).2) = fun i => eL z b t v (partF f rows i) := by
      funext i
      rw [hp i]
      split
      · rename_i q; exact q.symm
      · rfl
    simp only [hh]
    rw [he, hsub rows (fun _ h => h) hw]
    unfold partsG
    have herr := errF_parts z b t v f rows f0 fm k
    rw [fk, List.take_length] at herr
    rw [if_neg (by omega), herr]
    by_cases h9 : eL z b t v rows = 0
    · rw [if_pos h9, if_pos h9]
      have hz9 : ∀ i, i < k → eL z b t v (partF f rows i) = 0 := by
        intro i hi
        have h5 : eL z b t v (rows.take (f (i + 1))) = 0 := by
          have h6 := eL_append z b t v (rows.take (f (i + 1))) (rows.drop (f (i + 1)))
          rw [List.take_append_drop, h9] at h6
          by_cases h7 : eL z b t v (rows.take (f (i + 1))) = 0
          · exact h7
          · rw [if_neg h7] at h6; exact h6.symm
        have h6 := eL_append z b t v (rows.take (f i)) (partF f rows i)
        rw [take_part f rows i (fm i), h5] at h6
        by_cases h7 : eL z b t v (rows.take (f i)) = 0
        · rw [if_pos h7] at h6; exact h6.symm
        · rw [if_neg h7] at h6; exact absurd h6.symm h7
      obtain ⟨m, rfl⟩ : ∃ m, k = m + 1 := ⟨k - 1, by omega⟩
      have e0 : (rowsF s col.toNat (partF f rows 0) z).1 = foldD b t v z (partF f rows 0) := by rw [hp 0, if_pos (hz9 0 (by omega))]
      have e1 : (List.range (m + 1)).map (fun i => (rowsF s col.toNat (partF f rows i) z).1) = (List.range (m + 1)).map fun i => foldD b t v z (partF f rows i) := by
        refine List.map_congr_left fun i hi => ?_
        rw [hp i, if_pos (hz9 i (List.mem_range.1 hi))]
      show mergeF (rowsF s col.toNat (partF f rows 0) z).1 _ = _
      rw [e0, e1, merge_parts b t v z hz f rows f0 fm (fun x hx => (hok x hx).1) hw m, fk, List.take_length]
    · rw [if_neg h9, if_neg h9]
end Go.Proofs.Ytebdlmjpgohngaa
