/-
  EDGES CUT, THE NUMBERS: each edge is a value, the bins of edges go up one by one, no bin is empty; how often each bin was met. Condition: the bits are 64.
-/
import Derived.Test.YtmhdhifdkcadaaaEdgeN
import Derived.Test.YtmhdhifdkcadaaaEdgeB
namespace Go.Proofs.Ytmhdhifdkcadaaa
open Go.RowKit

/-- Integers. -/
def KI : Kind Int := ⟨35, 3, .int .i64, 0, 8⟩
theorem okI : KI.Ok := ⟨Try.underlying35, by kernel_rfl, by decide, fun _ => rfl, rfl⟩

/-- How often each of the m bins was met, by the first j. -/
def cntL (L E : List Nat) (m j : Nat) : List Int := (List.range m).map fun b => (((L.take j).countP (fun f => decide (binL E f = b)) : Nat) : Int)
theorem cntL_len (L E : List Nat) (m j : Nat) : (cntL L E m j).length = m := by simp [cntL]
theorem cntL_at {L E : List Nat} {m j b : Nat} (hb : b < m) : (cntL L E m j).getD b 0 = (((L.take j).countP (fun f => decide (binL E f = b)) : Nat) : Int) := by
  simp [cntL, List.getD_eq_getElem?_getD, hb]
theorem cntL_zero (L E : List Nat) (m : Nat) : cntL L E m 0 = List.replicate m 0 := by
  apply List.ext_getElem
  · simp [cntL]
  · intro i h1 h2
    simp [cntL]
theorem cntL_set {L E : List Nat} {m j : Nat} (hj : j < L.length) (hb : binL E (L.getD j 0) < m) :
    (cntL L E m j).set (binL E (L.getD j 0)) ((cntL L E m j).getD (binL E (L.getD j 0)) 0 + 1) = cntL L E m (j + 1) := by
  rw [cntL_at hb]
  have hg : L.getD j 0 = L[j] := by simp [List.getD_eq_getElem?_getD, hj]
  rw [hg] at hb ⊢
  apply List.ext_getElem
  · simp [cntL]
  · intro i h1 h2
    have him : i < m := by simpa [cntL] using h2
    rw [List.getElem_set]
    simp only [cntL, List.getElem_map, List.getElem_range]
    rw [List.take_add_one, List.getElem?_eq_getElem hj, List.countP_append]
    by_cases e : binL E L[j] = i
    · rw [if_pos e]
      simp [e]
    · rw [if_neg e]
      simp [e]
theorem cntL_le (L E : List Nat) (m j b : Nat) : 0 ≤ (cntL L E m j).getD b 0 ∧ (cntL L E m j).getD b 0 ≤ (j : Int) := by
  by_cases hb : b < m
  · rw [cntL_at hb]
    have := List.countP_le_length (p := fun f => decide (binL E f = b)) (l := L.take j)
    rw [List.length_take] at this
    omega
  · have : (cntL L E m j).getD b 0 = 0 := by simp [List.getD_eq_getElem?_getD, cntL, hb]
    rw [this]; omega

/-- How many of the first j aren't missing. -/
def tcnt (L : List Nat) (j : Nat) : Nat := (L.take j).countP fun f => !decide (mis f)
theorem tcnt_zero (L : List Nat) : tcnt L 0 = 0 := by simp [tcnt]
theorem tcnt_yes {L : List Nat} {j : Nat} (hj : j < L.length) (h : mis (L.getD j 0)) : tcnt L (j + 1) = tcnt L j := by
  unfold tcnt
  have hg : L.getD j 0 = L[j] := by simp [List.getD_eq_getElem?_getD, hj]
  rw [hg] at h
  rw [List.take_add_one, List.getElem?_eq_getElem hj, List.countP_append]
  simp [h]
theorem tcnt_no {L : List Nat} {j : Nat} (hj : j < L.length) (h : ¬ mis (L.getD j 0)) : tcnt L (j + 1) = tcnt L j + 1 := by
  unfold tcnt
  have hg : L.getD j 0 = L[j] := by simp [List.getD_eq_getElem?_getD, hj]
  rw [hg] at h
  rw [List.take_add_one, List.getElem?_eq_getElem hj, List.countP_append]
  simp [h]
theorem tcnt_le (L : List Nat) (j : Nat) : tcnt L j ≤ j := by
  unfold tcnt
  have := List.countP_le_length (p := fun f => !decide (mis f)) (l := L.take j)
  rw [List.length_take] at this
  omega
theorem tcnt_some {L : List Nat} {j : Nat} (hj : L.length ≤ j) (h : 0 < tcnt L j) : ∃ f ∈ L, ¬ mis f := by
  unfold tcnt at h
  rw [List.take_of_length_le hj, List.countP_pos_iff] at h
  obtain ⟨f, hf, h⟩ := h
  exact ⟨f, hf, by simpa using h⟩

/-- Is there one of the first j that stands beside x? -/
def isTo (L : List Nat) (x j : Nat) : Bool := (L.take j).any fun f => decide (key f = key x)
theorem isTo_zero (L : List Nat) (x : Nat) : isTo L x 0 = false := by simp [isTo]
theorem isTo_step {L : List Nat} {x j : Nat} (hj : j < L.length) : isTo L x (j + 1) = (isTo L x j || decide (key (L.getD j 0) = key x)) := by
  unfold isTo
  have hg : L.getD j 0 = L[j] := by simp [List.getD_eq_getElem?_getD, hj]
  rw [List.take_add_one, List.getElem?_eq_getElem hj, List.any_append, hg]
  simp
theorem isTo_all {L : List Nat} {x j : Nat} (hj : L.length ≤ j) (h : ∃ f ∈ L, key f = key x) : isTo L x j = true := by
  unfold isTo
  rw [List.take_of_length_le hj, List.any_eq_true]
  obtain ⟨f, hf, e⟩ := h
  exact ⟨f, hf, decide_eq_true e⟩

/-- Each edge is a value, of which none is missing. -/
theorem edge_of {L : List Nat} {b : Int} (h : Bits64 L) {x : Nat} (hx : x ∈ edgesL L b) : ∃ f ∈ L, ¬ mis f ∧ key f = key x := by
  unfold edgesL at hx
  split at hx
  · cases hx
  · exact there_of h ((edges_of_cut (there_rising h) (by omega)).2 x hx)
theorem count_up {E : List Nat} (h : E.Pairwise fun a b => key a < key b) {i : Nat} (hi : i < E.length) : E.countP (fun e => decide (key e ≤ key (E.getD i 0))) = i + 1 := by
  have hg : E.getD i 0 = E[i] := by simp [List.getD_eq_getElem?_getD, hi]
  rw [hg]
  have hp := List.pairwise_iff_getElem.1 h
  have e1 : (E.take (i + 1)).countP (fun e => decide (key e ≤ key E[i])) = i + 1 := by
    have : (E.take (i + 1)).countP (fun e => decide (key e ≤ key E[i])) = (E.take (i + 1)).length := List.countP_eq_length.2 fun a ha => by
      obtain ⟨j, hj, rfl⟩ := List.mem_iff_getElem.1 ha
      simp at hj
      rw [List.getElem_take]
      rcases Nat.lt_or_ge j i with k | k
      · have := hp j i (by omega) hi k
        exact decide_eq_true (by omega)
      · obtain rfl : j = i := by omega
        exact decide_eq_true (Nat.le_refl _)
    rw [this, List.length_take]; omega
  have e2 : (E.drop (i + 1)).countP (fun e => decide (key e ≤ key E[i])) = 0 := List.countP_eq_zero.2 fun a ha => by
    obtain ⟨j, hj, rfl⟩ := List.mem_iff_getElem.1 ha
    simp at hj
    rw [List.getElem_drop]
    have := hp i (i + 1 + j) hi (by omega) (by omega)
    simp; omega
  have := List.countP_append (p := fun e => decide (key e ≤ key E[i])) (l₁ := E.take (i + 1)) (l₂ := E.drop (i + 1))
  rw [List.take_append_drop] at this
  rw [this, e1, e2]
theorem bin_edge {E : List Nat} (h : Edges E) {i : Nat} (hi : i < E.length) : binL E (E.getD i 0) = i + 2 := by
  rw [binL_is (h.no _ (getD_in hi)), count_up h.up hi]; omega
theorem binL_key {E : List Nat} {f g : Nat} (hf : ¬ mis f) (hg : ¬ mis g) (h : key f = key g) : binL E f = binL E g := by
  rw [binL_is hf, binL_is hg, h]
/-- No bin but that of the missing is empty. -/
theorem no_empty {L : List Nat} {b : Int} (h : Bits64 L) (hs : ∃ f ∈ L, ¬ mis f) {k : Nat} (h1 : 1 ≤ k) (h2 : k ≤ (edgesL L b).length + 1) : ∃ f ∈ L, binL (edgesL L b) f = k := by
  have hE := edges_are h b
  rcases Nat.lt_or_ge k 2 with hk | hk
  · obtain rfl : k = 1 := by omega
    by_cases hb : b < 2 ∨ 256 < b
    · obtain ⟨f, hf, hm⟩ := hs
      exact ⟨f, hf, by rw [edges_none hb, binL_is hm]; rfl⟩
    · obtain ⟨f0, hf0, hm0⟩ := hs
      obtain ⟨x0, hx0, _⟩ := there_has h hf0 hm0
      have hl : 0 < (thereL L).length := List.length_pos_of_mem hx0
      obtain ⟨f, hf, hm, hk⟩ := there_of h (getD_in hl)
      refine ⟨f, hf, ?_⟩
      rw [edges_some (by omega) (by omega)]
      have I := cut_inv (bins := b.toNat) (there_rising h) hl (b.toNat - 1) (by omega)
      rw [binL_is hm]
      have : (cutsTo (thereL L) b.toNat (b.toNat - 1)).countP (fun e => decide (key e ≤ key f)) = 0 := List.countP_eq_zero.2 fun a ha => by
        have := I.low a ha
        simp; omega
      rw [this]
  · obtain ⟨i, rfl⟩ : ∃ i, k = i + 2 := ⟨k - 2, by omega⟩
    have hi : i < (edgesL L b).length := by omega
    obtain ⟨f, hf, hm, hk⟩ := edge_of h (getD_in hi)
    exact ⟨f, hf, by rw [binL_key hm (hE.no _ (getD_in hi)) hk]; exact bin_edge hE hi⟩
theorem cnt_pos {L E : List Nat} {m j k : Nat} (hj : L.length ≤ j) (hk : k < m) (h : ∃ f ∈ L, binL E f = k) : ((cntL L E m j).getD k 0 == 0) = false := by
  rw [cntL_at hk, List.take_of_length_le hj]
  have : 0 < L.countP (fun f => decide (binL E f = k)) := List.countP_pos_iff.2 (by obtain ⟨f, hf, e⟩ := h; exact ⟨f, hf, decide_eq_true e⟩)
  exact beq_eq_false_iff_ne.2 (by omega)

end Go.Proofs.Ytmhdhifdkcadaaa
