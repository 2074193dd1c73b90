/-
  EDGES, THEIR NUMBERS: values in order that aren't missing; the edges that are cut of them, one by one; what they are. Condition: the bits are 64.
-/
import Derived.Test.YtjaogmbeoldefaaRankSort
namespace Go.Proofs.Ytjaogmbeoldefaa
open Go.RowKit

/-- Those that aren't missing, in order. -/
def thereL (l : List Nat) : List Nat := (inOrder l).filter fun b => !decide (mis b)

/-- Clean values in order, none missing. -/
structure Rising (s : List Nat) : Prop where
  bits : Bits64 s
  cl : ∀ b ∈ s, cln b = b
  no : ∀ b ∈ s, ¬ mis b
  up : s.Pairwise fun a b => key a ≤ key b

theorem mis_key {b : Nat} (h : b < 18446744073709551616) : mis b ↔ key b = 0 := by
  constructor
  · exact key_mis
  · intro e
    rcases Decidable.em (mis b) with m | m
    · exact m
    · have := key_pos m h; omega
theorem mis_cln {b : Nat} (h : b < 18446744073709551616) : mis (cln b) ↔ mis b := by
  rw [mis_key h, mis_key (cln_lt h), (cln_cln h).2]

theorem inOrder_of {l : List Nat} (h : Bits64 l) {x : Nat} (hx : x ∈ inOrder l) : ∃ b ∈ l, x = cln b := by
  unfold inOrder at hx
  obtain ⟨k, hk, rfl⟩ := List.mem_map.1 hx
  have := (sortI_perm (keysOf l)).mem_iff.1 hk
  unfold keysOf at this
  obtain ⟨b, hb, rfl⟩ := List.mem_map.1 this
  exact ⟨b, hb, by rw [Int.toNat_natCast]; exact (tb_key (h b hb)).2⟩
theorem inOrder_keys {l : List Nat} (h : Bits64 l) : (inOrder l).map (fun b => ((key b : Nat) : Int)) = sortI (keysOf l) := by
  unfold inOrder
  rw [List.map_map]
  refine (List.map_congr_left (g := id) ?_).trans (List.map_id _)
  intro k hk
  obtain ⟨b, hb, rfl⟩ := keys_are h hk
  show ((key (ofK (Int.toNat (key b : Nat))) : Nat) : Int) = _
  rw [Int.toNat_natCast, (tb_key hb).2, (cln_cln hb).2]
  rfl
theorem inOrder_bits {l : List Nat} (h : Bits64 l) : Bits64 (inOrder l) := fun x hx => by
  obtain ⟨b, hb, rfl⟩ := inOrder_of h hx
  exact cln_lt (h b hb)
theorem inOrder_up {l : List Nat} (h : Bits64 l) : (inOrder l).Pairwise fun a b => key a ≤ key b := by
  have := sortI_rising (keysOf l)
  rw [← inOrder_keys h, List.pairwise_map] at this
  exact this.imp fun h => by omega
theorem inOrder_has {l : List Nat} (h : Bits64 l) {b : Nat} (hb : b ∈ l) : ∃ x ∈ inOrder l, key x = key b := by
  have : ((key b : Nat) : Int) ∈ sortI (keysOf l) := (sortI_perm _).mem_iff.2 (List.mem_map.2 ⟨b, hb, rfl⟩)
  rw [← inOrder_keys h] at this
  obtain ⟨x, hx, e⟩ := List.mem_map.1 this
  exact ⟨x, hx, by omega⟩

theorem there_rising {l : List Nat} (h : Bits64 l) : Rising (thereL l) := by
  refine ⟨fun b hb => inOrder_bits h b (List.mem_filter.1 hb).1, fun b hb => ?_, fun b hb => ?_, (inOrder_up h).filter _⟩
  · obtain ⟨x, hx, rfl⟩ := inOrder_of h (List.mem_filter.1 hb).1
    exact (cln_cln (h x hx)).1
  · simpa using (List.mem_filter.1 hb).2
theorem there_len (l : List Nat) : (thereL l).length ≤ l.length := by
  have := List.length_filter_le (fun b => !decide (mis b)) (inOrder l)
  rw [inOrder_len] at this
  exact this
theorem there_of {l : List Nat} (h : Bits64 l) {x : Nat} (hx : x ∈ thereL l) : ∃ b ∈ l, ¬ mis b ∧ key b = key x := by
  have h2 := List.mem_filter.1 hx
  obtain ⟨b, hb, rfl⟩ := inOrder_of h h2.1
  have h3 : ¬ mis (cln b) := by simpa using h2.2
  rw [mis_cln (h b hb)] at h3
  exact ⟨b, hb, h3, (cln_cln (h b hb)).2.symm⟩
theorem there_has {l : List Nat} (h : Bits64 l) {b : Nat} (hb : b ∈ l) (hm : ¬ mis b) : ∃ x ∈ thereL l, key x = key b := by
  obtain ⟨x, hx, e⟩ := inOrder_has h hb
  refine ⟨x, List.mem_filter.2 ⟨hx, ?_⟩, e⟩
  have h1 := inOrder_bits h x hx
  have : ¬ mis x := by rw [mis_key h1, e, ← mis_key (h b hb)]; exact hm
  simpa using this

/-- The value at the place q times n divided by bins. -/
def posE (s : List Nat) (bins q : Nat) : Nat := s.getD (q * s.length / bins) 0
/-- What the next edge must stand behind. -/
def lastE (s E : List Nat) : Nat := E.getLastD (s.getD 0 0)
def stepE (s : List Nat) (bins : Nat) (E : List Nat) (q : Nat) : List Nat := if key (lastE s E) < key (posE s bins q) then E ++ [posE s bins q] else E
/-- The edges that q = 1 .. t make. -/
def cutsTo (s : List Nat) (bins : Nat) : Nat → List Nat
  | 0 => []
  | t + 1 => stepE s bins (cutsTo s bins t) (t + 1)
/-- The edges. -/
def edgesL (l : List Nat) (bins : Int) : List Nat := if bins < 2 ∨ 256 < bins then [] else cutsTo (thereL l) bins.toNat (bins.toNat - 1)

theorem lastE_nil (s : List Nat) : lastE s [] = s.getD 0 0 := rfl
theorem lastE_snoc (s E : List Nat) (x : Nat) : lastE s (E ++ [x]) = x := by simp [lastE]
theorem stepE_yes {s : List Nat} {bins q : Nat} {E : List Nat} (h : key (lastE s E) < key (posE s bins q)) : stepE s bins E q = E ++ [posE s bins q] := if_pos h
theorem stepE_no {s : List Nat} {bins q : Nat} {E : List Nat} (h : ¬ key (lastE s E) < key (posE s bins q)) : stepE s bins E q = E := if_neg h
theorem cutsTo_len (s : List Nat) (bins : Nat) : ∀ t, (cutsTo s bins t).length ≤ t
  | 0 => Nat.le_refl _
  | t + 1 => by
    have := cutsTo_len s bins t
    show (stepE s bins (cutsTo s bins t) (t + 1)).length ≤ _
    unfold stepE
    split
    · simp; omega
    · omega
theorem cutsTo_none (bins : Nat) : ∀ t, cutsTo [] bins t = []
  | 0 => rfl
  | t + 1 => by
    show stepE [] bins (cutsTo [] bins t) (t + 1) = []
    rw [cutsTo_none bins t]
    exact stepE_no (by simp [lastE, posE])
theorem pos_lt {n bins q : Nat} (hn : 0 < n) (hq : q < bins) : q * n / bins < n := by
  rw [Nat.div_lt_iff_lt_mul (by omega), Nat.mul_comm n bins]
  exact Nat.mul_lt_mul_of_pos_right hq hn
theorem pos_mono {n bins q r : Nat} (h : q ≤ r) : q * n / bins ≤ r * n / bins := Nat.div_le_div_right (Nat.mul_le_mul_right _ h)
theorem getD_key {s : List Nat} (h : Rising s) {i j : Nat} (hij : i ≤ j) (hj : j < s.length) : key (s.getD i 0) ≤ key (s.getD j 0) := by
  have hi : i < s.length := by omega
  rcases Nat.lt_or_ge i j with k | k
  · have := List.pairwise_iff_getElem.1 h.up i j hi hj k
    simpa [List.getD_eq_getElem?_getD, hi, hj] using this
  · obtain rfl : i = j := by omega
    exact Nat.le_refl _
theorem getD_in {s : List Nat} {i : Nat} (hi : i < s.length) : s.getD i 0 ∈ s := by
  rw [List.getD_eq_getElem?_getD, List.getElem?_eq_getElem hi]
  exact List.getElem_mem hi

/-- What is so of the edges made so far. -/
structure CutInv (s : List Nat) (bins t : Nat) (E : List Nat) : Prop where
  mem : ∀ e ∈ E, ∃ q, 1 ≤ q ∧ q ≤ t ∧ e = posE s bins q
  low : ∀ e ∈ E, key (s.getD 0 0) < key e
  up : E.Pairwise fun a b => key a < key b
  last : ∀ e ∈ E, key e ≤ key (lastE s E)
  src : lastE s E = s.getD 0 0 ∨ ∃ q, 1 ≤ q ∧ q ≤ t ∧ lastE s E = posE s bins q
  all : ∀ q, 1 ≤ q → q ≤ t → key (posE s bins q) = key (s.getD 0 0) ∨ ∃ e ∈ E, key e = key (posE s bins q)

theorem cut_inv {s : List Nat} {bins : Nat} (h : Rising s) (h0 : 0 < s.length) : ∀ t, t < bins → CutInv s bins t (cutsTo s bins t)
  | 0, _ => ⟨(by simp [cutsTo]), (by simp [cutsTo]), List.Pairwise.nil, (by simp [cutsTo]), .inl rfl, fun q h1 h2 => by omega⟩
  | t + 1, ht => by
    have I := cut_inv (bins := bins) h h0 t (by omega)
    have hp : ∀ q r, q ≤ r → r ≤ t + 1 → key (posE s bins q) ≤ key (posE s bins r) := fun q r h1 h2 => getD_key h (pos_mono h1) (pos_lt h0 (by omega))
    have hz : ∀ q, q ≤ t + 1 → key (s.getD 0 0) ≤ key (posE s bins q) := fun q h2 => getD_key h (Nat.zero_le _) (pos_lt h0 (by omega))
    show CutInv s bins (t + 1) (stepE s bins (cutsTo s bins t) (t + 1))
    generalize cutsTo s bins t = E at *
    have hlz : key (s.getD 0 0) ≤ key (lastE s E) := by
      rcases I.src with e | ⟨q, _, q2, e⟩
      · rw [e]; exact Nat.le_refl _
      · rw [e]; exact hz q (by omega)
    have hlp : key (lastE s E) ≤ key (posE s bins (t + 1)) := by
      rcases I.src with e | ⟨q, _, q2, e⟩
      · rw [e]; exact hz _ (Nat.le_refl _)
      · rw [e]; exact hp q (t + 1) (by omega) (Nat.le_refl _)
    by_cases hk : key (lastE s E) < key (posE s bins (t + 1))
    · rw [stepE_yes hk]
      refine ⟨fun e he => ?_, fun e he => ?_, ?_, fun e he => ?_, ?_, fun q h1 h2 => ?_⟩
      · rcases List.mem_append.1 he with he | he
        · obtain ⟨q, q1, q2, e⟩ := I.mem e he
          exact ⟨q, q1, by omega, e⟩
        · exact ⟨t + 1, by omega, Nat.le_refl _, by simpa using he⟩
      · rcases List.mem_append.1 he with he | he
        · exact I.low e he
        · obtain rfl : e = posE s bins (t + 1) := by simpa using he
          omega
      · rw [List.pairwise_append]
        refine ⟨I.up, List.pairwise_singleton _ _, fun a ha b hb => ?_⟩
        obtain rfl : b = posE s bins (t + 1) := by simpa using hb
        have := I.last a ha
        omega
      · rw [lastE_snoc]
        rcases List.mem_append.1 he with he | he
        · have := I.last e he; omega
        · obtain rfl : e = posE s bins (t + 1) := by simpa using he
          exact Nat.le_refl _
      · exact .inr ⟨t + 1, by omega, Nat.le_refl _, lastE_snoc _ _ _⟩
      · by_cases hq : q ≤ t
        · rcases I.all q h1 hq with e | ⟨e, he, e2⟩
          · exact .inl e
          · exact .inr ⟨e, List.mem_append.2 (.inl he), e2⟩
        · obtain rfl : q = t + 1 := by omega
          exact .inr ⟨_, List.mem_append.2 (.inr (List.mem_singleton.2 rfl)), rfl⟩
    · rw [stepE_no hk]
      refine ⟨fun e he => ?_, I.low, I.up, I.last, ?_, fun q h1 h2 => ?_⟩
      · obtain ⟨q, q1, q2, e⟩ := I.mem e he
        exact ⟨q, q1, by omega, e⟩
      · rcases I.src with e | ⟨q, q1, q2, e⟩
        · exact .inl e
        · exact .inr ⟨q, q1, by omega, e⟩
      · by_cases hq : q ≤ t
        · exact I.all q h1 hq
        · obtain rfl : q = t + 1 := by omega
          have e0 : key (posE s bins (t + 1)) = key (lastE s E) := by omega
          rw [e0]
          rcases I.src with e | ⟨q, q1, q2, e⟩
          · left; rw [e]
          · rw [e]; exact I.all q q1 q2

/-- How many edges are as many as q, and the invariant, of the edges themselves. -/
theorem edges_none {l : List Nat} {bins : Int} (h : bins < 2 ∨ 256 < bins) : edgesL l bins = [] := if_pos h
theorem edges_some {l : List Nat} {bins : Int} (h1 : 2 ≤ bins) (h2 : bins ≤ 256) : edgesL l bins = cutsTo (thereL l) bins.toNat (bins.toNat - 1) := if_neg (by omega)

/-- Clean, none missing, each behind the one ahead. -/
structure Edges (E : List Nat) : Prop where
  bits : Bits64 E
  cl : ∀ b ∈ E, cln b = b
  no : ∀ b ∈ E, ¬ mis b
  up : E.Pairwise fun a b => key a < key b

theorem edges_of_cut {s : List Nat} {bins t : Nat} (h : Rising s) (ht : t < bins) : Edges (cutsTo s bins t) ∧ ∀ e ∈ cutsTo s bins t, e ∈ s := by
  rcases Nat.eq_zero_or_pos s.length with h0 | h0
  · obtain rfl := List.eq_nil_of_length_eq_zero h0
    rw [cutsTo_none]
    exact ⟨⟨by simp [Bits64], by simp, by simp, List.Pairwise.nil⟩, by simp⟩
  · have I := cut_inv h h0 t ht
    have hm : ∀ e ∈ cutsTo s bins t, e ∈ s := fun e he => by
      obtain ⟨q, q1, q2, rfl⟩ := I.mem e he
      exact getD_in (pos_lt h0 (by omega))
    exact ⟨⟨fun b hb => h.bits b (hm b hb), fun b hb => h.cl b (hm b hb), fun b hb => h.no b (hm b hb), I.up⟩, hm⟩
theorem edges_are {l : List Nat} (h : Bits64 l) (bins : Int) : Edges (edgesL l bins) := by
  unfold edgesL
  split
  · exact ⟨by simp [Bits64], by simp, by simp, List.Pairwise.nil⟩
  · exact (edges_of_cut (there_rising h) (by omega)).1
theorem edges_len (l : List Nat) (bins : Int) : (edgesL l bins).length ≤ 255 ∧ (2 ≤ bins → (edgesL l bins).length < bins.toNat) ∧ (bins < 2 → edgesL l bins = []) := by
  unfold edgesL
  split
  · exact ⟨by simp, fun h => by simp; omega, fun _ => rfl⟩
  · have := cutsTo_len (thereL l) bins.toNat (bins.toNat - 1)
    exact ⟨by omega, fun h => by omega, fun h => by omega⟩

end Go.Proofs.Ytjaogmbeoldefaa
