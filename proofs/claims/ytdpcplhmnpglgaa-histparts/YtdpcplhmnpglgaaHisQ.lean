/-
  HISTOGRAMS: parts and rests: what facts come to, part by part. No program.
-/
import Derived.Test.YtdpcplhmnpglgaaHisP
import Derived.Test.YtdpcplhmnpglgaaHisM
namespace Go.Proofs.Ytdpcplhmnpglgaa
open Go.RowKit

/-- What the numbers are within, behind so many facts. -/
structure Bd (j : Int) (d : HD) : Prop where
  right : rightD d = true
  c : ∀ i, i < d.lc.length → 0 ≤ d.lc.getD i 0 ∧ d.lc.getD i 0 ≤ j * 32768
  m0 : ∀ i, i < d.lm.length → i % 3 = 0 → 0 ≤ d.lm.getD i 0 ∧ d.lm.getD i 0 ≤ j * 32768
  m1 : ∀ i, i < d.lm.length → i % 3 = 1 → -(j * 34359738368) ≤ d.lm.getD i 0 ∧ d.lm.getD i 0 ≤ j * 34359738368
  m2 : ∀ i, i < d.lm.length → i % 3 = 2 → 0 ≤ d.lm.getD i 0 ∧ d.lm.getD i 0 ≤ j * 36028797018963968
theorem Bd.mono {j k : Int} {d : HD} (h : Bd j d) (hk : j ≤ k) : Bd k d :=
  ⟨h.right, fun i hi => by have := h.c i hi; omega, fun i hi q => by have := h.m0 i hi q; omega, fun i hi q => by have := h.m1 i hi q; omega, fun i hi q => by have := h.m2 i hi q; omega⟩

/-- The error that the numbers have no part in. -/
def hE (d : HD) (bin t v : Int) : Int := if bin < 0 ∨ d.b ≤ bin then 5 else if d.k = 0 ∧ (t < 0 ∨ d.c ≤ t) then 5 else if v < 0 then 1 else 0
/-- What a place gets. -/
def dC (d : HD) (bin t v : Int) (i : Nat) : Int := if hE d bin t v = 0 ∧ d.k ≠ 1 ∧ i = place d bin t then v else 0
def dM (d : HD) (bin t v : Int) (i : Nat) : Int := if hE d bin t v = 0 ∧ d.k = 1 then (if i = bin.toNat * 3 then v else if i = bin.toNat * 3 + 1 then t * v else if i = bin.toNat * 3 + 2 then t * (t * v) else 0) else 0

theorem right_facts {d : HD} (h : rightD d = true) : (d.k = 0 ∧ 1 ≤ d.b ∧ d.b ≤ 257 ∧ 2 ≤ d.c ∧ d.c ≤ 256 ∧ (d.lc.length : Int) = d.b * d.c ∧ d.lm.length = 0) ∨ (d.k = 1 ∧ 1 ≤ d.b ∧ d.b ≤ 257 ∧ d.c = 0 ∧ d.lc.length = 0 ∧ (d.lm.length : Int) = d.b * 3) := by
  obtain ⟨q0, q1, q2⟩ := rightD_true h
  have h1 := lenC_in d.k d.b d.c
  have h2 := lenM_in d.k d.b d.c
  by_cases a : 1 ≤ d.b ∧ d.b ≤ 257 ∧ d.k = 0 ∧ 2 ≤ d.c ∧ d.c ≤ 256
  · have e1 : lenC d.k d.b d.c = d.b * d.c := if_pos a
    have e2 : lenM d.k d.b d.c = 0 := if_neg (by omega)
    exact .inl ⟨a.2.2.1, a.1, a.2.1, a.2.2.2.1, a.2.2.2.2, by rw [q1, e1], by rw [e2] at q2; omega⟩
  · have e1 : lenC d.k d.b d.c = 0 := if_neg a
    by_cases b : 1 ≤ d.b ∧ d.b ≤ 257 ∧ d.k = 1 ∧ d.c = 0
    · have e2 : lenM d.k d.b d.c = d.b := if_pos b
      exact .inr ⟨b.2.2.1, b.1, b.2.1, b.2.2.2, by rw [e1] at q1; omega, by rw [e2] at q2; omega⟩
    · have e2 : lenM d.k d.b d.c = 0 := if_neg b
      rw [e1, e2] at q0
      omega

theorem add_wrongE {d : HD} {bin t v : Int} (h : rightD d = true) (h0 : hE d bin t v ≠ 0) : addE d bin t v = hE d bin t v ∧ addD d bin t v = d := by
  have e : addE d bin t v = hE d bin t v := by
    unfold addE hE at *
    rw [if_neg (by rw [h]; decide)]
    by_cases a : bin < 0 ∨ d.b ≤ bin
    · rw [if_pos a, if_pos a]
    · rw [if_neg a] at h0 ⊢
      rw [if_neg a]
      by_cases b : d.k = 0 ∧ (t < 0 ∨ d.c ≤ t)
      · rw [if_pos b, if_pos b]
      · rw [if_neg b] at h0 ⊢
        rw [if_neg b]
        by_cases c : v < 0
        · rw [if_pos c, if_pos c]
        · rw [if_neg c] at h0
          exact absurd rfl h0
  exact ⟨e, if_pos (by rw [e]; exact h0)⟩
theorem hE_zero {d : HD} {bin t v : Int} (h : hE d bin t v = 0) : 0 ≤ bin ∧ bin < d.b ∧ ¬ (d.k = 0 ∧ (t < 0 ∨ d.c ≤ t)) ∧ 0 ≤ v := by
  unfold hE at h
  by_cases a : bin < 0 ∨ d.b ≤ bin
  · rw [if_pos a] at h; cases h
  · rw [if_neg a] at h
    by_cases b : d.k = 0 ∧ (t < 0 ∨ d.c ≤ t)
    · rw [if_pos b] at h; cases h
    · rw [if_neg b] at h
      by_cases c : v < 0
      · rw [if_pos c] at h; cases h
      · exact ⟨by omega, by omega, b, by omega⟩

/-- A fact that is added. -/
theorem bd_add {j : Int} {d : HD} {bin t v : Int} (h : Bd j d) (j0 : 0 ≤ j) (j1 : j ≤ 99) (t1 : -1048576 ≤ t) (t2 : t ≤ 1048576) (v2 : v ≤ 32768) :
    addE d bin t v = hE d bin t v ∧ Bd (j + 1) (addD d bin t v) ∧ (addD d bin t v).k = d.k ∧ (addD d bin t v).b = d.b ∧ (addD d bin t v).c = d.c ∧ (addD d bin t v).lc.length = d.lc.length ∧ (addD d bin t v).lm.length = d.lm.length ∧
      (∀ i, i < d.lc.length → (addD d bin t v).lc.getD i 0 = d.lc.getD i 0 + dC d bin t v i) ∧ (∀ i, i < d.lm.length → (addD d bin t v).lm.getD i 0 = d.lm.getD i 0 + dM d bin t v i) := by
  by_cases hz : hE d bin t v = 0
  · obtain ⟨b0, b1, b2, v0⟩ := hE_zero hz
    have hA : addE d bin t v = if d.k = 1 then adE t v (d.lm.getD (bin.toNat * 3) 0) (d.lm.getD (bin.toNat * 3 + 1) 0) (d.lm.getD (bin.toNat * 3 + 2) 0) else plE (d.lc.getD (place d bin t) 0) v := by
      unfold addE
      rw [if_neg (by rw [h.right]; decide), if_neg (by omega), if_neg b2, if_neg (by omega)]
    rcases right_facts h.right with ⟨k, q1, q2, q3, q4, q5, q6⟩ | ⟨k, q1, q2, q3, q4, q5⟩
    · have k1 : ¬ d.k = 1 := by omega
      rw [if_neg k1] at hA
      have hp : place d bin t < d.lc.length := by
        have h1 := Int.mul_le_mul_of_nonneg_right (show bin + 1 ≤ d.b by omega) (show 0 ≤ d.c by omega)
        rw [Int.add_mul] at h1
        have h2 := Int.mul_nonneg b0 (show 0 ≤ d.c by omega)
        unfold place
        omega
      have hc := h.c _ hp
      have hf : -9223372036854775808 ≤ d.lc.getD (place d bin t) 0 + v ∧ d.lc.getD (place d bin t) 0 + v < 9223372036854775808 := by omega
      have hA0 : addE d bin t v = 0 := by rw [hA]; exact fitE_yes hf
      have hD : addD d bin t v = ⟨d.k, d.b, d.c, d.lc.set (place d bin t) (d.lc.getD (place d bin t) 0 + v), d.lm⟩ := by
        unfold addD
        rw [if_neg (by rw [hA0]; decide), if_neg k1]
        unfold plV
        rw [fitV_yes hf]
      have hg : ∀ i, i < d.lc.length → (d.lc.set (place d bin t) (d.lc.getD (place d bin t) 0 + v)).getD i 0 = d.lc.getD i 0 + dC d bin t v i := by
        intro i hi
        unfold dC
        by_cases e : place d bin t = i
        · subst e
          rw [if_pos ⟨hz, k1, rfl⟩]
          simp [List.getD_eq_getElem?_getD, hi]
        · rw [if_neg (by rintro ⟨_, _, q⟩; exact e q.symm)]
          simp [List.getD_eq_getElem?_getD, e]
      rw [hD]
      refine ⟨by rw [hA0, hz], ⟨?_, ?_, ?_, ?_, ?_⟩, rfl, rfl, rfl, by simp, rfl, hg, ?_⟩
      · have := h.right
        simp only [rightD, List.length_set] at this ⊢
        exact this
      · intro i hi
        simp only [List.length_set] at hi
        show 0 ≤ (d.lc.set _ _).getD i 0 ∧ (d.lc.set _ _).getD i 0 ≤ _
        rw [hg i hi]
        have := h.c i hi
        unfold dC
        split <;> omega
      · intro i hi; simp only [q6] at hi; omega
      · intro i hi; simp only [q6] at hi; omega
      · intro i hi; simp only [q6] at hi; omega
      · intro i hi; simp only [q6] at hi; omega
    · rw [if_pos k] at hA
      have hn : bin.toNat * 3 + 2 < d.lm.length := by omega
      have f0 := h.m0 (bin.toNat * 3) (by omega) (by omega)
      have f1 := h.m1 (bin.toNat * 3 + 1) (by omega) (by omega)
      have f2 := h.m2 (bin.toNat * 3 + 2) (by omega) (by omega)
      have p1 := mul_in (a := t) (b := v) (A := 1048576) (B := 32768) t1 t2 (by omega) v2
      have p2 := mul_in (a := t) (b := t * v) (A := 1048576) (B := 34359738368) t1 t2 (by omega) (by omega)
      have p3 : 0 ≤ t * (t * v) := by
        rw [← Int.mul_assoc]
        exact Int.mul_nonneg (by rcases Int.le_total 0 t with q | q; exact Int.mul_nonneg q q; exact Int.mul_nonneg_of_nonpos_of_nonpos q q) v0
      have g1 : -9223372036854775808 ≤ t * v ∧ t * v < 9223372036854775808 := by omega
      have g2 : -9223372036854775808 ≤ t * (t * v) ∧ t * (t * v) < 9223372036854775808 := by omega
      have s0 : -9223372036854775808 ≤ d.lm.getD (bin.toNat * 3) 0 + v ∧ d.lm.getD (bin.toNat * 3) 0 + v < 9223372036854775808 := by omega
      have s1 : -9223372036854775808 ≤ d.lm.getD (bin.toNat * 3 + 1) 0 + t * v ∧ d.lm.getD (bin.toNat * 3 + 1) 0 + t * v < 9223372036854775808 := by omega
      have s2 : -9223372036854775808 ≤ d.lm.getD (bin.toNat * 3 + 2) 0 + t * (t * v) ∧ d.lm.getD (bin.toNat * 3 + 2) 0 + t * (t * v) < 9223372036854775808 := by omega
      have hA0 : addE d bin t v = 0 := by
        rw [hA]
        unfold adE plE
        rw [if_pos (fitE_yes g1), if_pos (fitE_yes g2), fitE_yes s0, fitE_yes s1, fitE_yes s2]
        rfl
      have hD : addD d bin t v = ⟨d.k, d.b, d.c, d.lc, lm3 d.lm bin.toNat (d.lm.getD (bin.toNat * 3) 0 + v) (d.lm.getD (bin.toNat * 3 + 1) 0 + t * v) (d.lm.getD (bin.toNat * 3 + 2) 0 + t * (t * v))⟩ := by
        unfold addD
        rw [if_neg (by rw [hA0]; decide), if_pos k]
        unfold plV
        rw [fitV_yes s0, fitV_yes s1, fitV_yes s2]
      have hg : ∀ i, i < d.lm.length → (lm3 d.lm bin.toNat (d.lm.getD (bin.toNat * 3) 0 + v) (d.lm.getD (bin.toNat * 3 + 1) 0 + t * v) (d.lm.getD (bin.toNat * 3 + 2) 0 + t * (t * v))).getD i 0 = d.lm.getD i 0 + dM d bin t v i := by
        intro i hi
        have eM : dM d bin t v i = if i = bin.toNat * 3 then v else if i = bin.toNat * 3 + 1 then t * v else if i = bin.toNat * 3 + 2 then t * (t * v) else 0 := if_pos ⟨hz, k⟩
        rw [lm3_get _ _ _ _ _ hn, eM]
        by_cases u0 : i = bin.toNat * 3
        · rw [if_pos u0, if_pos u0, u0]
        · rw [if_neg u0, if_neg u0]
          by_cases u1 : i = bin.toNat * 3 + 1
          · rw [if_pos u1, if_pos u1, u1]
          · rw [if_neg u1, if_neg u1]
            by_cases u2 : i = bin.toNat * 3 + 2
            · rw [if_pos u2, if_pos u2, u2]
            · rw [if_neg u2, if_neg u2]; omega
      rw [hD]
      have hgM : ∀ i, i < d.lm.length → (i % 3 = 0 → 0 ≤ dM d bin t v i ∧ dM d bin t v i ≤ 32768) ∧ (i % 3 = 1 → -34359738368 ≤ dM d bin t v i ∧ dM d bin t v i ≤ 34359738368) ∧ (i % 3 = 2 → 0 ≤ dM d bin t v i ∧ dM d bin t v i ≤ 36028797018963968) := by
        intro i hi
        unfold dM
        rw [if_pos ⟨hz, k⟩]
        refine ⟨fun q => ?_, fun q => ?_, fun q => ?_⟩
        · split
          · omega
          · rw [if_neg (by omega), if_neg (by omega)]; omega
        · rw [if_neg (by omega)]
          split
          · omega
          · rw [if_neg (by omega)]; omega
        · rw [if_neg (by omega), if_neg (by omega)]
          split <;> omega
      refine ⟨by rw [hA0, hz], ⟨?_, ?_, ?_, ?_, ?_⟩, rfl, rfl, rfl, rfl, lm3_len _ _ _ _ _, ?_, hg⟩
      · have := h.right
        simp only [rightD, lm3_len] at this ⊢
        exact this
      · intro i hi; simp only [q4] at hi; omega
      · intro i hi q
        simp only [lm3_len] at hi
        show 0 ≤ (lm3 _ _ _ _ _).getD i 0 ∧ (lm3 _ _ _ _ _).getD i 0 ≤ _
        rw [hg i hi]
        have a1 := h.m0 i hi q
        have a2 := (hgM i hi).1 q
        omega
      · intro i hi q
        simp only [lm3_len] at hi
        show _ ≤ (lm3 _ _ _ _ _).getD i 0 ∧ (lm3 _ _ _ _ _).getD i 0 ≤ _
        rw [hg i hi]
        have a1 := h.m1 i hi q
        have a2 := (hgM i hi).2.1 q
        omega
      · intro i hi q
        simp only [lm3_len] at hi
        show 0 ≤ (lm3 _ _ _ _ _).getD i 0 ∧ (lm3 _ _ _ _ _).getD i 0 ≤ _
        rw [hg i hi]
        have a1 := h.m2 i hi q
        have a2 := (hgM i hi).2.2 q
        omega
      · intro i hi; simp only [q4] at hi; omega
  · obtain ⟨e1, e2⟩ := add_wrongE h.right hz
    rw [e2]
    refine ⟨e1, h.mono (by omega), rfl, rfl, rfl, rfl, rfl, fun i hi => ?_, fun i hi => ?_⟩
    · unfold dC; rw [if_neg (by rintro ⟨q, _⟩; exact hz q)]; omega
    · unfold dM; rw [if_neg (by rintro ⟨q, _⟩; exact hz q)]; omega

/-- One is the sum of two others. -/
structure SumD (a f r : HD) : Prop where
  fk : a.k = f.k
  fb : a.b = f.b
  fc : a.c = f.c
  rk : a.k = r.k
  rb : a.b = r.b
  rc : a.c = r.c
  fl : a.lc.length = f.lc.length
  fm : a.lm.length = f.lm.length
  rl : a.lc.length = r.lc.length
  rm : a.lm.length = r.lm.length
  c : ∀ i, i < a.lc.length → a.lc.getD i 0 = f.lc.getD i 0 + r.lc.getD i 0
  m : ∀ i, i < a.lm.length → a.lm.getD i 0 = f.lm.getD i 0 + r.lm.getD i 0
theorem hE_same {a f : HD} (k : a.k = f.k) (b : a.b = f.b) (c : a.c = f.c) (bin t v : Int) : hE a bin t v = hE f bin t v := by unfold hE; rw [k, b, c]
theorem dC_same {a f : HD} (k : a.k = f.k) (b : a.b = f.b) (c : a.c = f.c) (bin t v : Int) (i : Nat) : dC a bin t v i = dC f bin t v i := by
  unfold dC place; rw [hE_same k b c, k, c]
theorem dM_same {a f : HD} (k : a.k = f.k) (b : a.b = f.b) (c : a.c = f.c) (bin t v : Int) (i : Nat) : dM a bin t v i = dM f bin t v i := by
  unfold dM; rw [hE_same k b c, k]
/-- What holds behind so many facts. -/
structure Inv (j : Int) (a f r : HD) : Prop where
  s : SumD a f r
  a : Bd j a
  f : Bd j f
  r : Bd j r
theorem Inv.first {j : Int} {a f r : HD} {bin t v : Int} (h : Inv j a f r) (j0 : 0 ≤ j) (j1 : j ≤ 99) (t1 : -1048576 ≤ t) (t2 : t ≤ 1048576) (v2 : v ≤ 32768) :
    addE a bin t v = addE f bin t v ∧ addE f bin t v ≠ 6 ∧ Inv (j + 1) (addD a bin t v) (addD f bin t v) r := by
  obtain ⟨a1, a2, a3, a4, a5, a6, a7, a8, a9⟩ := bd_add h.a j0 j1 t1 t2 v2 (bin := bin)
  obtain ⟨f1, f2, f3, f4, f5, f6, f7, f8, f9⟩ := bd_add h.f j0 j1 t1 t2 v2 (bin := bin)
  have s := h.s
  refine ⟨by rw [a1, f1]; exact hE_same s.fk s.fb s.fc bin t v, ?_, ⟨⟨by rw [a3, f3, s.fk], by rw [a4, f4, s.fb], by rw [a5, f5, s.fc], by rw [a3, s.rk], by rw [a4, s.rb], by rw [a5, s.rc], by rw [a6, f6, s.fl], by rw [a7, f7, s.fm], by rw [a6, s.rl], by rw [a7, s.rm], ?_, ?_⟩, a2, f2, h.r.mono (by omega)⟩⟩
  · rw [f1]; unfold hE
    split
    · decide
    · split
      · decide
      · split <;> decide
  · intro i hi
    rw [a6] at hi
    rw [a8 i hi, f8 i (by rw [← s.fl]; exact hi), s.c i hi, dC_same s.fk s.fb s.fc]
    omega
  · intro i hi
    rw [a7] at hi
    rw [a9 i hi, f9 i (by rw [← s.fm]; exact hi), s.m i hi, dM_same s.fk s.fb s.fc]
    omega
theorem SumD.swap {a f r : HD} (s : SumD a f r) : SumD a r f :=
  ⟨s.rk, s.rb, s.rc, s.fk, s.fb, s.fc, s.rl, s.rm, s.fl, s.fm, fun i hi => by rw [s.c i hi, Int.add_comm], fun i hi => by rw [s.m i hi, Int.add_comm]⟩
theorem Inv.swap {j : Int} {a f r : HD} (h : Inv j a f r) : Inv j a r f := ⟨h.s.swap, h.a, h.r, h.f⟩
theorem Inv.more {j k : Int} {a f r : HD} (h : Inv j a f r) (hk : j ≤ k) : Inv k a f r := ⟨h.s, h.a.mono hk, h.f.mono hk, h.r.mono hk⟩
theorem Inv.rest {j : Int} {a f r : HD} {bin t v : Int} (h : Inv j a f r) (j0 : 0 ≤ j) (j1 : j ≤ 99) (t1 : -1048576 ≤ t) (t2 : t ≤ 1048576) (v2 : v ≤ 32768) :
    addE a bin t v = addE r bin t v ∧ addE r bin t v ≠ 6 ∧ Inv (j + 1) (addD a bin t v) f (addD r bin t v) := by
  obtain ⟨h1, h2, h3⟩ := h.swap.first j0 j1 t1 t2 v2 (bin := bin)
  exact ⟨h1, h2, h3.swap⟩

theorem Inv.start {d : HD} (hr : rightD d = true) (hc : ∀ i, d.lc.getD i 0 = 0) (hm : ∀ i, d.lm.getD i 0 = 0) : Inv 0 d d d := by
  have b : Bd 0 d := ⟨hr, fun i _ => by rw [hc]; omega, fun i _ _ => by rw [hm]; omega, fun i _ _ => by rw [hm]; omega, fun i _ _ => by rw [hm]; omega⟩
  exact ⟨⟨rfl, rfl, rfl, rfl, rfl, rfl, rfl, rfl, rfl, rfl, fun i _ => by rw [hc]; rfl, fun i _ => by rw [hm]; rfl⟩, b, b, b⟩

theorem like_of {a b : HD} (h1 : rightD a = true) (h2 : rightD b = true) (hk : a.k = b.k) (hb : a.b = b.b) (hc : a.c = b.c) : likeD a b = true := by simp [likeD, h1, h2, hk, hb, hc]
theorem both_zero {W : Ways} {a b : HD} (hl : likeD a b = true) (h1 : W.ec a b = 0) (h2 : W.em a b = 0) : bothE W a b = 0 := by
  unfold bothE; rw [if_neg (by rw [hl]; decide), if_pos h1]; exact h2

/-- The parts merged are the whole. -/
theorem Inv.merged {j : Int} {a f r : HD} (h : Inv j a f r) (j0 : 0 ≤ j) (j1 : j ≤ 100) : bothE plusW f r = 0 ∧ bothD plusW f r = a := by
  have s := h.s
  have hl : likeD f r = true := like_of h.f.right h.r.right (by rw [← s.fk, s.rk]) (by rw [← s.fb, s.rb]) (by rw [← s.fc, s.rc])
  have h1 : plusW.ec f r = 0 := by
    unfold Ways.ec
    refine firstE_zero.2 fun i hi => ?_
    have := h.a.c i (by rw [s.fl]; exact hi)
    rw [s.c i (by rw [s.fl]; exact hi)] at this
    exact fitE_yes (by omega)
  have h2 : plusW.em f r = 0 := by
    unfold Ways.em
    refine firstE_zero.2 fun i hi => ?_
    have e0 := h.a.m0 (i * 3) (by rw [s.fm]; omega) (by omega)
    have e1 := h.a.m1 (i * 3 + 1) (by rw [s.fm]; omega) (by omega)
    have e2 := h.a.m2 (i * 3 + 2) (by rw [s.fm]; omega) (by omega)
    rw [s.m _ (by rw [s.fm]; omega)] at e0 e1 e2
    refine or3_zero.2 ⟨?_, ?_, ?_⟩
    · show fitE (f.lm.getD (i * 3) 0 + r.lm.getD (i * 3) 0) = 0
      exact fitE_yes (by omega)
    · show fitE (f.lm.getD (i * 3 + 1) 0 + r.lm.getD (i * 3 + 1) 0) = 0
      exact fitE_yes (by omega)
    · show fitE (f.lm.getD (i * 3 + 2) 0 + r.lm.getD (i * 3 + 2) 0) = 0
      exact fitE_yes (by omega)
  have h0 := both_zero hl h1 h2
  refine ⟨h0, ?_⟩
  obtain ⟨c1, c2, c3⟩ := both_c h0
  obtain ⟨m1, m2, m3⟩ := both_m h0
  obtain ⟨k1, k2, k3⟩ := both_head h0
  refine HD.ext' (by rw [k1, s.fk]) (by rw [k2, s.fb]) (by rw [k3, s.fc]) (ext_getD (by rw [c1, s.fl]) fun i hi => ?_) (ext_getD (by rw [m1, s.fm]) fun i hi => ?_)
  · rw [c1] at hi
    rw [c3 i hi, s.c i (by rw [s.fl]; exact hi)]
  · rw [m1] at hi
    rw [m3 i hi, s.m i (by rw [s.fm]; exact hi)]
theorem leE_yes {s : Int} (h0 : 0 ≤ s) (h : s < 9223372036854775808) : leE s = 0 ∧ leV s = s := by
  have hf : -9223372036854775808 ≤ s ∧ s < 9223372036854775808 := by omega
  exact ⟨(if_neg (by omega)).trans (fitE_yes hf), (if_pos h0).trans (fitV_yes hf)⟩
/-- Without the one part the other one is left. -/
theorem Inv.left {j : Int} {a f r : HD} (h : Inv j a f r) (j0 : 0 ≤ j) (j1 : j ≤ 100) : bothE lessW a f = 0 ∧ bothD lessW a f = r := by
  have s := h.s
  have hl : likeD a f = true := like_of h.a.right h.f.right s.fk s.fb s.fc
  have hc : ∀ i, i < a.lc.length → a.lc.getD i 0 - f.lc.getD i 0 = r.lc.getD i 0 := fun i hi => by rw [s.c i hi]; omega
  have hm : ∀ i, i < a.lm.length → a.lm.getD i 0 - f.lm.getD i 0 = r.lm.getD i 0 := fun i hi => by rw [s.m i hi]; omega
  have h3 : a.lm.length % 3 = 0 := by have := (rightD_true h.a.right).2.2; omega
  have h1 : lessW.ec a f = 0 := by
    unfold Ways.ec
    refine firstE_zero.2 fun i hi => ?_
    show leE _ = 0
    have := h.r.c i (by rw [← s.rl]; exact hi)
    rw [hc i hi]
    exact (leE_yes this.1 (by omega)).1
  have h2 : lessW.em a f = 0 := by
    unfold Ways.em
    refine firstE_zero.2 fun i hi => ?_
    have e0 := h.r.m0 (i * 3) (by rw [← s.rm]; omega) (by omega)
    have e1 := h.r.m1 (i * 3 + 1) (by rw [← s.rm]; omega) (by omega)
    have e2 := h.r.m2 (i * 3 + 2) (by rw [← s.rm]; omega) (by omega)
    refine or3_zero.2 ⟨?_, ?_, ?_⟩
    · show leE _ = 0
      rw [hm _ (by omega)]; exact (leE_yes e0.1 (by omega)).1
    · show fitE _ = 0
      rw [hm _ (by omega)]; exact fitE_yes (by omega)
    · show leE _ = 0
      rw [hm _ (by omega)]; exact (leE_yes e2.1 (by omega)).1
  have h0 := both_zero hl h1 h2
  refine ⟨h0, ?_⟩
  have e : bothD lessW a f = ⟨a.k, a.b, a.c, lessW.lc a f, lessW.lm a f⟩ := if_pos h0
  rw [e]
  refine HD.ext' s.rk s.rb s.rc (ext_getD (by show (mapN _ _).length = _; rw [mapN_len, s.rl]) fun i hi => ?_) (ext_getD (by show (mapN _ _).length = _; rw [mapN_len, s.rm]) fun i hi => ?_)
  · have hi2 : i < a.lc.length := by
      have : i < (mapN _ _).length := hi
      rwa [mapN_len] at this
    show (mapN _ _).getD i 0 = _
    rw [mapN_get _ hi2]
    show leV _ = _
    have := h.r.c i (by rw [← s.rl]; exact hi2)
    rw [hc i hi2]
    exact (leE_yes this.1 (by omega)).2
  · have hi2 : i < a.lm.length := by
      have : i < (mapN _ _).length := hi
      rwa [mapN_len] at this
    show (mapN _ _).getD i 0 = _
    rw [mapN_get _ hi2]
    have e0 := h.r.m0 i (by rw [← s.rm]; exact hi2)
    have e1 := h.r.m1 i (by rw [← s.rm]; exact hi2)
    have e2 := h.r.m2 i (by rw [← s.rm]; exact hi2)
    unfold mmV
    split
    · rename_i q
      show leV _ = _
      rw [hm i hi2]; exact (leE_yes (e0 q).1 (by have := e0 q; omega)).2
    · split
      · rename_i q
        show fitV _ = _
        rw [hm i hi2]; exact fitV_yes (by have := e1 q; omega)
      · have q : i % 3 = 2 := by omega
        show leV _ = _
        rw [hm i hi2]; exact (leE_yes (e2 q).1 (by have := e2 q; omega)).2
end Go.Proofs.Ytdpcplhmnpglgaa
