/-
  EACH ONCE: of whatever numbers a permutation has each number once, those that are chosen are unlike and rising, and weights are n together; a draw fails with the error 7 alone. No condition.
-/
import Derived.Test.YtmhggfgbefjcmaaDealFix
namespace Go.Proofs.Ytmhggfgbefjcmaa
open Go.RowKit

theorem deals_inv (xs B : Nat → Int) (next : List Int → Nat → Nat → List Int) (t : Nat) (hB : ∀ i, i < t → 0 < B i) (Q : Nat → List Int → Prop) (step : ∀ (i : Nat) (l : List Int) (x : Nat), i < t → (x : Int) < B i → Q i l → Q (i + 1) (next l i x)) :
    ∀ f i k l, i + f = t → Q i l → ((deals xs B next f i k l).2.2 = 0 ∧ Q t (deals xs B next f i k l).1 ∧ k ≤ (deals xs B next f i k l).2.1) ∨ (deals xs B next f i k l).2.2 = 7 := by
  intro f
  induction f with
  | zero => intro i k l h hq; left; exact ⟨rfl, by rw [← h]; exact hq, Nat.le_refl _⟩
  | succ f ih =>
    intro i k l h hq
    have hi : i < t := by omega
    have hd := draw_in xs (B i) (hB i hi) k
    obtain ⟨y, k', er, hdr⟩ : ∃ y k' er, draw xs (B i) k = (y, k', er) := ⟨_, _, _, rfl⟩
    have e : deals xs B next (f + 1) i k l = if (draw xs (B i) k).2.2 = 0 then deals xs B next f (i + 1) (draw xs (B i) k).2.1 (next l i (draw xs (B i) k).1.toNat) else (l, (draw xs (B i) k).2.1, (draw xs (B i) k).2.2) := rfl
    rw [hdr] at hd e
    rw [e]
    simp only at hd ⊢
    by_cases he : er = 0
    · rw [if_pos he]
      rcases ih (i + 1) k' (next l i y.toNat) (by omega) (step i l y.toNat hi (by omega) hq) with ⟨a, b, c⟩ | a
      · exact .inl ⟨a, b, by omega⟩
      · exact .inr a
    · rw [if_neg he]
      right
      show er = 7
      omega

theorem swapL_perm (l : List Int) (i j : Nat) (hi : i < l.length) (hj : j < l.length) : (swapL l i j).Perm l := by
  have := (List.set_set_perm hi hj : ((l.set i l[j]).set j l[i]).Perm l)
  unfold swapL
  simpa [List.getD_eq_getElem?_getD, hi, hj] using this

theorem upto_nodup (n : Nat) : (upto n).Nodup := by
  unfold upto
  exact List.Pairwise.map _ (fun a b h => by omega) (List.nodup_range (n := n))
theorem upto_mem (n : Nat) (x : Int) : x ∈ upto n ↔ 0 ≤ x ∧ x < n := by
  unfold upto
  rw [List.mem_map]
  constructor
  · rintro ⟨a, ha, rfl⟩
    have := List.mem_range.1 ha
    omega
  · rintro ⟨h0, h1⟩
    exact ⟨x.toNat, List.mem_range.2 (by omega), by omega⟩

/-- Each number below m once. -/
def Each (p : List Int) (m : Nat) : Prop := p.length = m ∧ (∀ j, j < m → 0 ≤ p.getD j 0 ∧ p.getD j 0 < m) ∧ ∀ i j, i < j → j < m → p.getD i 0 ≠ p.getD j 0
/-- c unlike numbers below m, rising. -/
def Rising (s : List Int) (c m : Nat) : Prop := s.length = c ∧ (∀ j, j < c → 0 ≤ s.getD j 0 ∧ s.getD j 0 < m) ∧ ∀ j, 0 < j → j < c → s.getD (j - 1) 0 < s.getD j 0
/-- m weights, m together. -/
def Weights (q : List Int) (m : Nat) : Prop := q.length = m ∧ (∀ j, j < m → 0 ≤ q.getD j 0 ∧ q.getD j 0 ≤ m) ∧ q.sum = m

theorem getD_mem {l : List Int} {j : Nat} (h : j < l.length) : l.getD j 0 ∈ l := by
  rw [List.getD_eq_getElem?_getD, List.getElem?_eq_getElem h, Option.getD_some]
  exact List.getElem_mem h
theorem getD_at {l : List Int} {j : Nat} (h : j < l.length) : l.getD j 0 = l[j] := by
  rw [List.getD_eq_getElem?_getD, List.getElem?_eq_getElem h, Option.getD_some]

theorem each_of_perm {p : List Int} {m : Nat} (h : p.Perm (upto m)) : Each p m := by
  have hl : p.length = m := by rw [h.length_eq, upto_len]
  have hn : p.Nodup := h.nodup_iff.2 (upto_nodup m)
  refine ⟨hl, fun j hj => (upto_mem m _).1 (h.mem_iff.1 (getD_mem (by omega))), fun i j hij hj => ?_⟩
  rw [getD_at (by omega), getD_at (by omega)]
  exact List.pairwise_iff_getElem.1 hn i j (by omega) (by omega) hij

theorem sortI_perm (l : List Int) : (sortI l).Perm l := List.mergeSort_perm l _
theorem sortI_rising (l : List Int) : (sortI l).Pairwise (fun a b => a ≤ b) := by
  have := List.pairwise_mergeSort (le := fun x y : Int => decide (x ≤ y)) (fun a b c h1 h2 => by simp at h1 h2 ⊢; omega) (fun a b => by simp; omega) l
  exact this.imp (fun h => by simpa using h)

theorem rising_of_perm {l : List Int} {m c : Nat} (h : l.Perm (upto m)) (hc : c ≤ m) : Rising (sortI (l.take c)) c m := by
  have hl : l.length = m := by rw [h.length_eq, upto_len]
  have hn : (sortI (l.take c)).Nodup := (sortI_perm _).nodup_iff.2 ((List.take_sublist c l).nodup (h.nodup_iff.2 (upto_nodup m)))
  have hlen : (sortI (l.take c)).length = c := by rw [sortI_len]; simp; omega
  refine ⟨hlen, fun j hj => ?_, fun j h0 hj => ?_⟩
  · have := (sortI_perm _).mem_iff.1 (getD_mem (l := sortI (l.take c)) (j := j) (by omega))
    exact (upto_mem m _).1 (h.mem_iff.1 (List.mem_of_mem_take this))
  · rw [getD_at (by omega), getD_at (by omega)]
    have h1 := List.pairwise_iff_getElem.1 (sortI_rising (l.take c)) (j - 1) j (by omega) (by omega) (by omega)
    have h2 := List.pairwise_iff_getElem.1 hn (j - 1) j (by omega) (by omega) (by omega)
    exact Int.lt_iff_le_and_ne.2 ⟨h1, h2⟩

theorem sum_set_one : ∀ (l : List Int) (x : Nat), x < l.length → (addOne l x).sum = l.sum + 1 := by
  intro l
  induction l with
  | nil => intro x h; simp at h
  | cons a l ih =>
    intro x h
    cases x with
    | zero => simp [addOne]; omega
    | succ x =>
      have := ih x (by simpa using h)
      simp [addOne] at this ⊢
      omega

theorem perm_told (xs : Nat → Int) (m k : Nat) (hm : m ≤ 1048576) : ((permR xs (m : Int) k).2.2 = 0 ∧ Each (permR xs (m : Int) k).1 m) ∨ (permR xs (m : Int) k).2.2 = 7 := by
  have hR : permR xs (m : Int) k = told (permTo xs m k) := by unfold permR; rw [if_pos (by omega)]; rfl
  rw [hR]
  have := deals_inv xs (fun i => (m : Int) - i) (fun l i x => swapL l (m - 1 - i) x) (m - 1) (fun i hi => by omega) (fun _ l => l.Perm (upto m)) (fun i l x hi hx h => (swapL_perm l _ _ (by rw [h.length_eq, upto_len]; omega) (by rw [h.length_eq, upto_len]; omega)).trans h) (m - 1) 0 k (upto m) (by omega) (List.Perm.refl _)
  rw [show deals xs (fun i => (m : Int) - i) (fun l i x => swapL l (m - 1 - i) x) (m - 1) 0 k (upto m) = permTo xs m k from rfl] at this
  generalize permTo xs m k = d at *
  rcases this with ⟨h1, h2, _⟩ | h1
  · rw [told_ok h1]; exact .inl ⟨h1, each_of_perm h2⟩
  · rw [told_no (by omega)]; exact .inr h1

theorem choose_told (xs : Nat → Int) (m c k : Nat) (hm : m ≤ 1048576) (hc : c ≤ m) : ((chooseR xs (m : Int) (c : Int) k).2.2 = 0 ∧ Rising (chooseR xs (m : Int) (c : Int) k).1 c m) ∨ (chooseR xs (m : Int) (c : Int) k).2.2 = 7 := by
  have hR : chooseR xs (m : Int) (c : Int) k = chosen c (chooseTo xs m c k) := by unfold chooseR; rw [if_pos (by omega)]; rfl
  rw [hR]
  have := deals_inv xs (fun i => (m : Int) - i) (fun l i x => swapL l i (i + x)) c (fun i hi => by omega) (fun _ l => l.Perm (upto m)) (fun i l x hi hx h => (swapL_perm l _ _ (by rw [h.length_eq, upto_len]; omega) (by rw [h.length_eq, upto_len]; omega)).trans h) c 0 k (upto m) (by omega) (List.Perm.refl _)
  rw [show deals xs (fun i => (m : Int) - i) (fun l i x => swapL l i (i + x)) c 0 k (upto m) = chooseTo xs m c k from rfl] at this
  generalize chooseTo xs m c k = d at *
  rcases this with ⟨h1, h2, _⟩ | h1
  · rw [show chosen c d = (sortI (d.1.take c), d.2.1, 0) from if_pos h1]; exact .inl ⟨rfl, rising_of_perm h2 hc⟩
  · rw [show chosen c d = ([], d.2.1, d.2.2) from if_neg (by omega)]; exact .inr h1

theorem deal_told (xs : Nat → Int) (m k : Nat) (hm : m ≤ 1048576) : ((dealR xs (m : Int) k).2.2 = 0 ∧ Weights (dealR xs (m : Int) k).1 m) ∨ (dealR xs (m : Int) k).2.2 = 7 := by
  have hR : dealR xs (m : Int) k = told (dealTo xs m k) := by unfold dealR; rw [if_pos (by omega)]; rfl
  rw [hR]
  have := deals_inv xs (fun _ => (m : Int)) (fun l _ x => addOne l x) m (fun i hi => by omega) (fun i l => l.length = m ∧ Small l i ∧ l.sum = i) (fun i l x hi hx h => ⟨by rw [addOne_len]; exact h.1, h.2.1.next x, by rw [sum_set_one l x (by omega), h.2.2]; omega⟩) m 0 k (List.replicate m 0) (by omega) ⟨by simp, Small.start m, by simp⟩
  rw [show deals xs (fun _ => (m : Int)) (fun l _ x => addOne l x) m 0 k (List.replicate m 0) = dealTo xs m k from rfl] at this
  generalize dealTo xs m k = d at *
  rcases this with ⟨h1, ⟨h2, h3, h4⟩, _⟩ | h1
  · rw [told_ok h1]; exact .inl ⟨h1, h2, fun j _ => h3 j, h4⟩
  · rw [told_no (by omega)]; exact .inr h1
end Go.Proofs.Ytmhggfgbefjcmaa
