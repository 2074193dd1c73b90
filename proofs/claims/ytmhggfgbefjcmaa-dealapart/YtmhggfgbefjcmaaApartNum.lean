/-
  UNLIKE DRAWS, UNLIKE PERMUTATIONS: of 7 things, by draws that are below their bounds. No condition.
-/
import Derived.Test.YtmhggfgbefjcmaaOnceNum
namespace Go.Proofs.Ytmhggfgbefjcmaa
open Go.RowKit

theorem draw_small (xs : Nat → Int) (n : Int) (k : Nat) (h0 : 0 ≤ xs k) (h1 : xs k < n) (hn : n ≤ 7) : draw xs n k = (xs k, k + 1, 0) := by
  unfold draw
  rw [if_neg (by omega)]
  have e : drawTo xs n (63 + 1) k = if xs k ≤ lastI n then (xs k % n, k + 1, 0) else drawTo xs n 63 (k + 1) := rfl
  have hl : xs k ≤ lastI n := by
    unfold lastI
    have := Int.emod_lt_of_pos (18446744073709551616 - n) (by omega : 0 < n)
    omega
  rw [e, if_pos hl, Int.emod_eq_of_lt h0 h1]

/-- The changes of places, one behind the other. -/
def goP (xs : Nat → Int) : Nat → Nat → List Int → List Int
  | 0, _, l => l
  | f + 1, i, l => goP xs f (i + 1) (swapL l (7 - 1 - i) (xs i).toNat)

/-- The draws are below their bounds. -/
def InB (xs : Nat → Int) : Prop := ∀ j : Nat, j < 6 → 0 ≤ xs j ∧ xs j < 7 - (j : Int)

theorem deals_small (xs : Nat → Int) (hx : InB xs) : ∀ f i l, i + f = 6 → deals xs (fun i => (7 : Int) - i) (fun l i x => swapL l (7 - 1 - i) x) f i i l = (goP xs f i l, 6, 0) := by
  intro f
  induction f with
  | zero =>
    intro i l h
    have : i = 6 := by omega
    subst this
    rfl
  | succ f ih =>
    intro i l h
    have hb := hx i (by omega)
    have hd := draw_small xs (7 - (i : Int)) i hb.1 hb.2 (by omega)
    have e : deals xs (fun i => (7 : Int) - i) (fun l i x => swapL l (7 - 1 - i) x) (f + 1) i i l = if (draw xs (7 - (i : Int)) i).2.2 = 0 then deals xs (fun i => (7 : Int) - i) (fun l i x => swapL l (7 - 1 - i) x) f (i + 1) (draw xs (7 - (i : Int)) i).2.1 (swapL l (7 - 1 - i) (draw xs (7 - (i : Int)) i).1.toNat) else (l, (draw xs (7 - (i : Int)) i).2.1, (draw xs (7 - (i : Int)) i).2.2) := rfl
    rw [e, hd, if_pos rfl]
    exact ih (i + 1) _ (by omega)

theorem perm_small (xs : Nat → Int) (hx : InB xs) : permR xs 7 0 = (goP xs 6 0 (upto 7), 6, 0) := by
  unfold permR
  rw [if_pos (by omega)]
  have := deals_small xs hx 6 0 (upto 7) rfl
  show told (deals xs (fun i => (7 : Int) - i) (fun l i x => swapL l (7 - 1 - i) x) 6 0 0 (upto 7)) = _
  rw [this]
  exact told_ok (d := (goP xs 6 0 (upto 7), 6, 0)) rfl

theorem swapL_other (l : List Int) (a b p : Nat) (ha : p ≠ a) (hb : p ≠ b) : (swapL l a b).getD p 0 = l.getD p 0 := by
  unfold swapL
  simp only [List.getD_eq_getElem?_getD]
  rw [List.getElem?_set_ne (Ne.symm hb), List.getElem?_set_ne (Ne.symm ha)]
theorem swapL_first (l : List Int) (a b : Nat) (ha : a < l.length) (_hb : b < l.length) : (swapL l a b).getD a 0 = l.getD b 0 := by
  unfold swapL
  by_cases e : b = a
  · subst e
    simp [List.getD_eq_getElem?_getD, ha]
  · simp only [List.getD_eq_getElem?_getD]
    rw [List.getElem?_set_ne e, List.getElem?_set_self ha]
    rfl

theorem goP_keeps (xs : Nat → Int) (hx : InB xs) : ∀ f i l p, i + f = 6 → 7 - i ≤ p → (goP xs f i l).getD p 0 = l.getD p 0 := by
  intro f
  induction f with
  | zero => intro i l p _ _; rfl
  | succ f ih =>
    intro i l p h hp
    have hb := hx i (by omega)
    unfold goP
    rw [ih (i + 1) _ p (by omega) (by omega), swapL_other _ _ _ _ (by omega) (by omega)]

theorem goP_apart (xs ys : Nat → Int) (hx : InB xs) (hy : InB ys) : ∀ f i l, i + f = 6 → l.length = 7 → l.Nodup → goP xs f i l = goP ys f i l → ∀ j, i ≤ j → j < 6 → xs j = ys j := by
  intro f
  induction f with
  | zero => intro i l h _ _ _ j h1 h2; omega
  | succ f ih =>
    intro i l h hl hn he j h1 h2
    have hb := hx i (by omega)
    have hc := hy i (by omega)
    have e1 := goP_keeps xs hx f (i + 1) (swapL l (7 - 1 - i) (xs i).toNat) (7 - 1 - i) (by omega) (by omega)
    have e2 := goP_keeps ys hy f (i + 1) (swapL l (7 - 1 - i) (ys i).toNat) (7 - 1 - i) (by omega) (by omega)
    rw [swapL_first _ _ _ (by omega) (by omega)] at e1 e2
    have e3 : goP xs f (i + 1) (swapL l (7 - 1 - i) (xs i).toNat) = goP ys f (i + 1) (swapL l (7 - 1 - i) (ys i).toNat) := he
    have e4 : l.getD (xs i).toNat 0 = l.getD (ys i).toNat 0 := by rw [← e1, ← e2, e3]
    have hxy : xs i = ys i := by
      rw [getD_at (by omega), getD_at (by omega)] at e4
      have hp := List.pairwise_iff_getElem.1 hn
      rcases Nat.lt_trichotomy (xs i).toNat (ys i).toNat with h' | h' | h'
      · exact absurd e4 (hp _ _ (by omega) (by omega) h')
      · omega
      · exact absurd e4.symm (hp _ _ (by omega) (by omega) h')
    by_cases hj : j = i
    · rw [hj]; exact hxy
    · rw [hxy] at e3
      exact ih (i + 1) _ (by omega) (by rw [swapL_len]; exact hl) ((swapL_perm l _ _ (by omega) (by omega)).nodup_iff.2 hn) e3 j (by omega) h2

/-- What is drawn of the first j. -/
def drw (A : List Int) (j : Nat) : List Int := (List.range j).map (fun i : Nat => A.getD i 0 % (7 - (i : Int)))
theorem drw_len (A : List Int) (j : Nat) : (drw A j).length = j := by simp [drw]
theorem drw_succ (A : List Int) (j : Nat) : drw A (j + 1) = drw A j ++ [A.getD j 0 % (7 - (j : Int))] := by simp [drw, List.range_succ]
theorem drw_getD (A : List Int) (j i : Nat) (h : i < j) : (drw A j).getD i 0 = A.getD i 0 % (7 - (i : Int)) := by simp [drw, List.getD_eq_getElem?_getD, h]
theorem drw_inB (A : List Int) : InB (nums (drw A 6)) := by
  intro j hj
  unfold nums
  rw [drw_getD A 6 j hj]
  exact ⟨Int.emod_nonneg _ (by omega), Int.emod_lt_of_pos _ (by omega)⟩
theorem drw_all (A : List Int) : All64 (drw A 6) := by
  intro x hx
  obtain ⟨i, hi, rfl⟩ := List.mem_map.1 hx
  have := List.mem_range.1 hi
  have h1 := Int.emod_nonneg (A.getD i 0) (by omega : (7 : Int) - (i : Int) ≠ 0)
  have h2 := Int.emod_lt_of_pos (A.getD i 0) (by omega : 0 < (7 : Int) - (i : Int))
  omega

theorem apart_iff (A C : List Int) : decide (goP (nums (drw A 6)) 6 0 (upto 7) = goP (nums (drw C 6)) 6 0 (upto 7)) = decide (drw A 6 = drw C 6) := by
  rw [decide_eq_decide]
  constructor
  · intro h
    have := goP_apart _ _ (drw_inB A) (drw_inB C) 6 0 (upto 7) rfl (upto_len 7) (upto_nodup 7) h
    exact eq_of_getD (by rw [drw_len, drw_len]) fun j hj => this j (by omega) (by rw [drw_len] at hj; exact hj)
  · intro h
    rw [h]
theorem same_next (A C : List Int) (j : Nat) : decide (drw A (j + 1) = drw C (j + 1)) = (decide (drw A j = drw C j) && decide (A.getD j 0 % (7 - (j : Int)) = C.getD j 0 % (7 - (j : Int)))) := by
  rw [drw_succ, drw_succ, ← Bool.decide_and, decide_eq_decide]
  constructor
  · intro h
    have := List.append_inj h (by rw [drw_len, drw_len])
    exact ⟨this.1, by simpa using this.2⟩
  · rintro ⟨h1, h2⟩
    rw [h1, h2]
end Go.Proofs.Ytmhggfgbefjcmaa
