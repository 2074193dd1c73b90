/-
  THE BEST OF SOME FRACTIONS, as numbers: what the first greatest right one is; there is one such place at most. No program in this text.
-/
import Derived.Test.YthfipbmmbhnhiaaDoorChains
namespace Go.Proofs.YthfipbmmbhnhiaaDoor

/-- How the fractions at two places stand to one another. -/
def at2 (H L D : Nat → Int) (i k : Nat) : Int := cmpF (H i * 18446744073709551616 + L i) (D i) (H k * 18446744073709551616 + L k) (D k)

theorem at2_self (H L D : Nat → Int) (i : Nat) : at2 H L D i i = 0 := cmpF_self _ _
theorem at2_swap (H L D : Nat → Int) (i k : Nat) : at2 H L D k i = -at2 H L D i k := cmpF_swap _ _ _ _
theorem at2_chain {H L D : Nat → Int} {i j k : Nat} (hi : 0 ≤ D i) (hj : 0 ≤ D j) (hk : 0 ≤ D k) (h1 : at2 H L D i j ≤ 0) (h2 : at2 H L D j k ≤ 0) : at2 H L D i k ≤ 0 := cmpF_chain hi hj hk h1 h2
theorem at2_none {H L D : Nat → Int} {i k : Nat} (hi : D i = 0) (hk : ¬ D k = 0) : at2 H L D i k = -1 := by
  unfold at2 cmpF; rw [if_pos hi, if_neg hk]
theorem at2_over {H L D : Nat → Int} {i k : Nat} (hi : ¬ D i = 0) (hk : D k = 0) : at2 H L D i k = 1 := by
  unfold at2 cmpF; rw [if_neg hi, if_pos hk]
/-- Ahead of what stands above. -/
theorem at2_strict {H L D : Nat → Int} {i j k : Nat} (hi : 0 ≤ D i) (hj : 0 ≤ D j) (hk : 0 ≤ D k) (h1 : at2 H L D i j ≤ 0) (h2 : 0 < at2 H L D k j) : at2 H L D i k < 0 := by
  rcases Int.lt_or_le (at2 H L D i k) 0 with h | h
  · exact h
  · have h3 : at2 H L D k i ≤ 0 := by rw [at2_swap H L D i k]; omega
    have := at2_chain hk hi hj h3 h1
    omega

/-- The place is that of the first greatest right one of n; -1, if none is right. -/
def IsBest (n : Nat) (H L D : Nat → Int) (k : Int) : Prop :=
  (k = -1 ∧ ∀ i, i < n → D i = 0) ∨ ∃ p : Nat, k = p ∧ p < n ∧ ¬ D p = 0 ∧ ∀ i, i < n → at2 H L D i p ≤ 0 ∧ (i < p → at2 H L D i p < 0)
theorem IsBest.unique {n : Nat} {H L D : Nat → Int} {k m : Int} (h1 : IsBest n H L D k) (h2 : IsBest n H L D m) : k = m := by
  rcases h1 with ⟨rfl, a⟩ | ⟨p, rfl, hp, dp, a⟩ <;> rcases h2 with ⟨rfl, b⟩ | ⟨q, rfl, hq, dq, b⟩
  · rfl
  · exact absurd (a q hq) dq
  · exact absurd (b p hp) dp
  · have h3 := a q hq
    have h4 := b p hp
    have h5 := at2_swap H L D p q
    rcases Nat.lt_trichotomy p q with h | h | h
    · have := h4.2 h; omega
    · rw [h]
    · have := h3.2 h; omega

/-- The first greatest one of the first j, right or not. -/
def Pre (j : Nat) (H L D : Nat → Int) (k : Int) : Prop :=
  (k = -1 ∧ j = 0) ∨ ∃ q : Nat, k = q ∧ q < j ∧ ∀ i, i < j → at2 H L D i q ≤ 0 ∧ (i < q → at2 H L D i q < 0)
theorem Pre.start (H L D : Nat → Int) : Pre 0 H L D (-1) := .inl ⟨rfl, rfl⟩
theorem Pre.first (H L D : Nat → Int) : Pre 1 H L D 0 := .inr ⟨0, rfl, by omega, fun i hi => by
  have : i = 0 := by omega
  subst this
  exact ⟨by rw [at2_self]; omega, fun h => by omega⟩⟩
theorem Pre.take {j q : Nat} {H L D : Nat → Int} (hD : ∀ i, i ≤ j → 0 ≤ D i) (h : Pre j H L D (q : Int)) (hc : 0 < at2 H L D j q) : Pre (j + 1) H L D (j : Int) := by
  rcases h with ⟨h, _⟩ | ⟨q', e, hq, a⟩
  · omega
  · have : q' = q := by omega
    subst this
    refine .inr ⟨j, rfl, by omega, fun i hi => ?_⟩
    by_cases e : i = j
    · subst e; exact ⟨by rw [at2_self]; omega, fun h => by omega⟩
    · have := at2_strict (hD i (by omega)) (hD q' (by omega)) (hD j (by omega)) (a i (by omega)).1 hc
      exact ⟨by omega, fun _ => this⟩
theorem Pre.keep {j q : Nat} {H L D : Nat → Int} (h : Pre j H L D (q : Int)) (hc : ¬ 0 < at2 H L D j q) : Pre (j + 1) H L D (q : Int) := by
  rcases h with ⟨h, _⟩ | ⟨q', e, hq, a⟩
  · omega
  · have : q' = q := by omega
    subst this
    refine .inr ⟨q', rfl, by omega, fun i hi => ?_⟩
    by_cases e : i = j
    · subst e; exact ⟨by omega, fun h => by omega⟩
    · exact a i (by omega)
theorem Pre.none {n q : Nat} {H L D : Nat → Int} (h : Pre n H L D (q : Int)) (hd : D q = 0) : IsBest n H L D (-1) := by
  rcases h with ⟨h, _⟩ | ⟨q', e, hq, a⟩
  · omega
  · have : q' = q := by omega
    subst this
    refine .inl ⟨rfl, fun i hi => ?_⟩
    by_cases hz : D i = 0
    · exact hz
    · have := at2_over (H := H) (L := L) hz hd
      have := (a i hi).1
      omega
theorem Pre.best {n q : Nat} {H L D : Nat → Int} (h : Pre n H L D (q : Int)) (hd : ¬ D q = 0) : IsBest n H L D (q : Int) := by
  rcases h with ⟨h, _⟩ | ⟨q', e, hq, a⟩
  · omega
  · have : q' = q := by omega
    subst this
    exact .inr ⟨q', rfl, hq, hd, a⟩

/-- The first greatest right one from the place j on. -/
def Suf (j n : Nat) (H L D : Nat → Int) (k : Int) : Prop :=
  (k = -1 ∧ ∀ i, j ≤ i → i < n → D i = 0) ∨ ∃ q : Nat, k = q ∧ j ≤ q ∧ q < n ∧ ¬ D q = 0 ∧ ∀ i, j ≤ i → i < n → at2 H L D i q ≤ 0 ∧ (i < q → at2 H L D i q < 0)
theorem Suf.start (n : Nat) (H L D : Nat → Int) : Suf n n H L D (-1) := .inl ⟨rfl, fun i h1 h2 => by omega⟩
theorem Suf.best {n : Nat} {H L D : Nat → Int} {k : Int} (h : Suf 0 n H L D k) : IsBest n H L D k := by
  rcases h with ⟨h, a⟩ | ⟨q, e, _, hq, hd, a⟩
  · exact .inl ⟨h, fun i hi => a i (by omega) hi⟩
  · exact .inr ⟨q, e, hq, hd, fun i hi => a i (by omega) hi⟩
theorem Suf.skip {j n : Nat} {H L D : Nat → Int} {k : Int} (h : Suf (j + 1) n H L D k) (hd : D j = 0) : Suf j n H L D k := by
  rcases h with ⟨h, a⟩ | ⟨q, e, hj, hq, hq0, a⟩
  · refine .inl ⟨h, fun i h1 h2 => ?_⟩
    by_cases e : i = j
    · rw [e]; exact hd
    · exact a i (by omega) h2
  · refine .inr ⟨q, e, by omega, hq, hq0, fun i h1 h2 => ?_⟩
    by_cases e : i = j
    · subst e; rw [at2_none hd hq0]; exact ⟨by omega, fun _ => by omega⟩
    · exact a i (by omega) h2
theorem Suf.first {j n : Nat} {H L D : Nat → Int} (h : Suf (j + 1) n H L D (-1)) (hn : j < n) (hd : ¬ D j = 0) : Suf j n H L D (j : Int) := by
  rcases h with ⟨_, a⟩ | ⟨q, e, _⟩
  · refine .inr ⟨j, rfl, by omega, hn, hd, fun i h1 h2 => ?_⟩
    by_cases e : i = j
    · subst e; exact ⟨by rw [at2_self]; omega, fun h => by omega⟩
    · rw [at2_none (a i (by omega) h2) hd]; exact ⟨by omega, fun _ => by omega⟩
  · omega
theorem Suf.take {j n q : Nat} {H L D : Nat → Int} (hD : ∀ i, i < n → 0 ≤ D i) (h : Suf (j + 1) n H L D (q : Int)) (hn : j < n) (hd : ¬ D j = 0) (hc : 0 ≤ at2 H L D j q) : Suf j n H L D (j : Int) := by
  rcases h with ⟨e, _⟩ | ⟨q', e, hj, hq, hq0, a⟩
  · omega
  · have : q' = q := by omega
    subst this
    refine .inr ⟨j, rfl, by omega, hn, hd, fun i h1 h2 => ?_⟩
    by_cases e : i = j
    · subst e; exact ⟨by rw [at2_self]; omega, fun h => by omega⟩
    · refine ⟨at2_chain (hD i h2) (hD q' hq) (hD j hn) (a i (by omega) h2).1 (by rw [at2_swap H L D j q']; omega), fun h => by omega⟩
theorem Suf.keep {j n q : Nat} {H L D : Nat → Int} (h : Suf (j + 1) n H L D (q : Int)) (hc : ¬ 0 ≤ at2 H L D j q) : Suf j n H L D (q : Int) := by
  rcases h with ⟨e, _⟩ | ⟨q', e, hj, hq, hq0, a⟩
  · omega
  · have : q' = q := by omega
    subst this
    refine .inr ⟨q', rfl, by omega, hq, hq0, fun i h1 h2 => ?_⟩
    by_cases e : i = j
    · subst e; exact ⟨by omega, fun _ => by omega⟩
    · exact a i (by omega) h2
/-- Where it stands: nowhere, or at one of the places. -/
theorem Suf.at {j n : Nat} {H L D : Nat → Int} {k : Int} (h : Suf j n H L D k) : k = -1 ∨ ∃ q : Nat, k = q ∧ q < n := by
  rcases h with ⟨e, _⟩ | ⟨q, e, _, hq, _⟩
  · exact .inl e
  · exact .inr ⟨q, e, hq⟩
theorem Pre.at {j : Nat} {H L D : Nat → Int} {k : Int} (h : Pre j H L D k) : k = -1 ∧ j = 0 ∨ ∃ q : Nat, k = q ∧ q < j := by
  rcases h with e | ⟨q, e, hq, _⟩
  · exact .inl e
  · exact .inr ⟨q, e, hq⟩
end Go.Proofs.YthfipbmmbhnhiaaDoor
