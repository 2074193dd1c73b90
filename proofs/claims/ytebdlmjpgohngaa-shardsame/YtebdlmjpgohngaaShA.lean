/-
  PARTS: where a number of things is cut; rows of spans of the call's own, number by number; may, spans. Condition: a number of things of 64 bits with a sign.
-/
import Derived.Test.YtebdlmjpgohngaaBinS
namespace Go.Proofs.Ytebdlmjpgohngaa
open Go.RowKit

/-- Where part i begins. -/
def cutF (n p i : Nat) : Nat := min i p * (n / p) + min (min i p) (n % p)
theorem cutF_zero (n p : Nat) : cutF n p 0 = 0 := by simp [cutF]
theorem cutF_all (n p : Nat) (hp : 0 < p) : cutF n p p = n := by
  have h := Nat.mod_lt n hp
  have h2 := Nat.div_add_mod n p
  unfold cutF
  rw [Nat.min_self, Nat.min_eq_right (by omega)]
  exact h2
theorem cutF_step (n p i : Nat) (hi : i < p) : cutF n p (i + 1) = cutF n p i + n / p + (if i < n % p then 1 else 0) := by
  unfold cutF
  rw [show min (i + 1) p = i + 1 by omega, show min i p = i by omega, Nat.succ_mul]
  split <;> omega
theorem cutF_mono (n p i : Nat) : cutF n p i ≤ cutF n p (i + 1) := by
  by_cases hi : i < p
  · rw [cutF_step n p i hi, Nat.add_assoc]; exact Nat.le_add_right _ _
  · unfold cutF; rw [show min (i + 1) p = p by omega, show min i p = p by omega]; exact Nat.le_refl _
theorem cutF_le (n p : Nat) (hp : 0 < p) (i : Nat) : cutF n p i ≤ n := by
  have h : ∀ k, cutF n p (p - k) ≤ n := by
    intro k
    induction k with
    | zero => rw [Nat.sub_zero, cutF_all n p hp]; exact Nat.le_refl _
    | succ k ih =>
      rcases Nat.eq_zero_or_pos (p - k) with h0 | h0
      · rw [show p - (k + 1) = p - k by omega]; exact ih
      · have := cutF_mono n p (p - (k + 1))
        rw [show p - (k + 1) + 1 = p - k by omega] at this
        omega
  by_cases hi : i < p
  · have := h (p - i); rwa [show p - (p - i) = i by omega] at this
  · have : cutF n p i = cutF n p p := by unfold cutF; rw [show min i p = p by omega, Nat.min_self]
    rw [this, cutF_all n p hp]; exact Nat.le_refl _

/-- The first so many parts, number by number. -/
def spanL (f : Nat → Nat) (t : Nat) : List Int := (List.range t).flatMap fun i => [(f i : Int), (f (i + 1) : Int)]
theorem spanL_succ (f : Nat → Nat) (t : Nat) : spanL f (t + 1) = spanL f t ++ [(f t : Int), (f (t + 1) : Int)] := by
  unfold spanL; rw [List.range_succ, List.flatMap_append]; simp
theorem spanL_len (f : Nat → Nat) : ∀ t, (spanL f t).length = t * 2
  | 0 => rfl
  | t + 1 => by rw [spanL_succ, List.length_append, spanL_len f t]; simp; omega
theorem spanL_at (f : Nat → Nat) : ∀ t i, i < t → (spanL f t).getD (i * 2) 0 = (f i : Int) ∧ (spanL f t).getD (i * 2 + 1) 0 = (f (i + 1) : Int)
  | 0, i, h => absurd h (Nat.not_lt_zero _)
  | t + 1, i, h => by
    rw [spanL_succ]
    have hl := spanL_len f t
    by_cases e : i = t
    · subst e
      simp only [List.getD_eq_getElem?_getD]
      rw [List.getElem?_append_right (by omega), List.getElem?_append_right (by omega), hl]
      rw [show i * 2 - i * 2 = 0 by omega, show i * 2 + 1 - i * 2 = 1 by omega]
      exact ⟨rfl, rfl⟩
    · have := spanL_at f t i (by omega)
      simp only [List.getD_eq_getElem?_getD] at *
      rw [List.getElem?_append_left (by omega), List.getElem?_append_left (by omega)]
      exact this

/-- The parts that there are. -/
def partsK (n p : Int) : Nat := if n < 0 ∨ p < 1 ∨ 64 < p then 0 else p.toNat

theorem infoP : (Try.prog.info? 25).map (fun i => (i.zero, i.size, i.bytes)) = some (some (.agg #[.int .i64 0, .int .i64 0]), 2, 16) := by kernel_rfl

/-- A row of spans of the call's own, number by number. -/
def OwnP (w : World) (B : Nat) (v : Value) (n : Nat) (l : List Int) : Prop := w.ownsRow B 25 2 v n (l.map (Value.int .i64))
theorem OwnP.start (w : World) (B : Nat) (hB : B ≤ w.heap.size) : OwnP (w.alloc (.cells #[] 25)) B (.slice (some ⟨w.heap.size, 0, none⟩) 0 0) 0 [] :=
  World.ownsRow_made w #[] 0 hB (Nat.zero_le _) rfl
theorem OwnP.nil (w : World) (B : Nat) : OwnP w B (.slice none 0 0) 0 [] := ⟨rfl, .inl ⟨rfl, rfl⟩⟩
theorem OwnP.base {w : World} {B C n : Nat} {v : Value} {l : List Int} (h : OwnP w B v n l) (hc : C ≤ B) : OwnP w C v n l := by
  obtain ⟨h1, ⟨rfl, h0⟩ | ⟨g, cap, cur, rfl, hB, hg, hc, hm, hs, ht⟩⟩ := h
  · exact ⟨h1, .inl ⟨rfl, h0⟩⟩
  · exact ⟨h1, .inr ⟨g, cap, cur, rfl, by omega, hg, hc, hm, hs, ht⟩⟩
theorem OwnP.keep {w w' : World} {B n : Nat} {v : Value} {l : List Int} (h : OwnP w B v n l) (hb : ∀ k, B ≤ k → k < w.heap.size → w'.heap[k]? = w.heap[k]?) : OwnP w' B v n l := by
  obtain ⟨h1, ⟨rfl, h0⟩ | ⟨g, cap, cur, rfl, hB, hg, hc, hm, hs, ht⟩⟩ := h
  · exact ⟨h1, .inl ⟨rfl, h0⟩⟩
  · exact ⟨h1, .inr ⟨g, cap, cur, rfl, hB, (hb g hB (Array.getElem?_eq_some_iff.1 hg).1).trans hg, hc, hm, hs, ht⟩⟩
theorem OwnP.below {w w' : World} {B n : Nat} {v : Value} {l : List Int} (h : OwnP w B v n l) (b : Go.RowKit.Below w.heap.size w w') : OwnP w' B v n l := h.keep fun k _ hk => b.block k hk
theorem OwnP.lst {w : World} {B n : Nat} {v : Value} {l : List Int} (h : OwnP w B v n l) : l.length = n * 2 ∧ ((v = .slice none 0 0 ∧ n = 0) ∨ ∃ g cap, v = .slice (some ⟨g, 0, none⟩) n cap ∧ B ≤ g ∧ n ≤ cap ∧ cap ≤ maxLen ∧ Lst KN g 0 l w) := by
  obtain ⟨h1, ⟨rfl, h0⟩ | ⟨g, cap, cur, rfl, hB, hg, hc, hm, hs, ht⟩⟩ := h
  · exact ⟨by simpa using h1, .inl ⟨rfl, h0⟩⟩
  · have hl : l.length = n * 2 := by simpa using h1
    refine ⟨hl, .inr ⟨g, cap, rfl, hB, hc, hm, (Array.getElem?_eq_some_iff.1 hg).1, fun j hj => ?_, fun j hj => ?_⟩⟩
    · have e : (cur.toList.take (n * 2))[j]? = (l.map (Value.int .i64))[j]? := by rw [ht]
      rw [List.getElem?_take] at e
      have hj3 : j < n * 2 := by omega
      simp only [hj3, if_true, List.getElem?_map, Array.getElem?_toList] at e
      simp only [World.cell?, hg]
      simp [e, hj, KN]
    · simp [World.frozen?, hg]
/-- What a slice of spans is, as it is read. -/
theorem OwnP.read {w : World} {B n : Nat} {v : Value} {l : List Int} (h : OwnP w B v n l) : ∃ a c, v = .slice a n c ∧ l.length = n * 2 ∧ HoldsE KN w a l := by
  obtain ⟨hl, ⟨rfl, h0⟩ | ⟨g, cap, rfl, _, _, _, hh⟩⟩ := h.lst
  · exact ⟨none, 0, by rw [h0], hl, .inl (List.eq_nil_of_length_eq_zero (by omega))⟩
  · exact ⟨_, cap, rfl, hl, hh.holds⟩

theorem may_p (p : Int) (w : World) : Calls Try.prog 26 #[.int .i64 p] w fun e w' => e = .returned (.bool (decide (1 ≤ p ∧ p ≤ 64))) ∧ w = w' := by
  by_cases h1 : 1 ≤ p
  · have g1 : decide (1 ≤ p) = true := decide_eq_true h1
    by_cases h2 : p ≤ 64
    · have g2 : decide (p ≤ 64) = true := decide_eq_true h2
      rw [decide_eq_true (show 1 ≤ p ∧ p ≤ 64 from ⟨h1, h2⟩)]
      clear h1 h2
      go_enter Try.func26, Try.ntmps26
      go_wp2_with fail
      go_ret
      exact ⟨rfl, rfl⟩
    · have g2 : decide (p ≤ 64) = false := decide_eq_false h2
      rw [decide_eq_false (show ¬ (1 ≤ p ∧ p ≤ 64) from fun h => h2 h.2)]
      clear h1 h2
      go_enter Try.func26, Try.ntmps26
      go_wp2_with fail
      go_ret
      exact ⟨rfl, rfl⟩
  · have g1 : decide (1 ≤ p) = false := decide_eq_false h1
    rw [decide_eq_false (show ¬ (1 ≤ p ∧ p ≤ 64) from fun h => h1 h.1)]
    clear h1
    go_enter Try.func26, Try.ntmps26
    go_wp2_with fail
    go_ret
    exact ⟨rfl, rfl⟩
end Go.Proofs.Ytebdlmjpgohngaa
