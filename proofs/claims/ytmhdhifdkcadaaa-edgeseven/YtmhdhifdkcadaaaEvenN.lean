/-
  EDGES CUT EVENLY, THE NUMBERS: of unlike values none of which is missing no bin has more than their number divided by the number of bins, rounded up. Condition: the bits are 64.
-/
import Derived.Test.YtmhdhifdkcadaaaCutN
namespace Go.Proofs.Ytmhdhifdkcadaaa
open Go.RowKit

/-- How many lie from lo on. -/
theorem count_from (p : Nat → Bool) (lo : Nat) : ∀ n, (∀ i, i < n → p i = true → lo ≤ i) → (List.range n).countP p ≤ n - lo
  | 0, _ => by simp
  | n + 1, h => by
    have ih := count_from p lo n (fun i hi => h i (by omega))
    rw [List.range_succ, List.countP_append]
    by_cases hp : p n = true
    · have := h n (by omega) hp
      simp [hp]
      omega
    · simp [hp]
      omega
/-- Those that are near one another are few. -/
theorem count_near (p : Nat → Bool) {c : Nat} (hc : 1 ≤ c) : ∀ n, (∀ i j, i < j → j < n → p i = true → p j = true → j < i + c) → (List.range n).countP p ≤ c
  | 0, _ => by simp
  | n + 1, h => by
    have ih := count_near p hc n (fun i j h1 h2 => h i j h1 (by omega))
    rw [List.range_succ, List.countP_append]
    by_cases hp : p n = true
    · have := count_from p (n + 1 - c) n (fun i hi hpi => by have := h i n hi (by omega) hpi hp; omega)
      simp [hp]
      omega
    · simp [hp]
      exact ih
theorem count_range (s : List Nat) (p : Nat → Bool) : s.countP p = (List.range s.length).countP fun i => p (s.getD i 0) := by
  have e : s = (List.range s.length).map fun i => s.getD i 0 := by
    apply List.ext_getElem
    · simp
    · intro i h1 h2
      simp [List.getD_eq_getElem?_getD, h1]
  have := congrArg (List.countP p) e
  rw [List.countP_map] at this
  exact this

/-- Between two that are so far apart there is a cut. -/
theorem cut_between {n b i1 i2 : Nat} (hb : 0 < b) (hn : i2 < n) (h : i1 + (n + b - 1) / b ≤ i2) : ∃ q, 1 ≤ q ∧ q < b ∧ i1 < q * n / b ∧ q * n / b ≤ i2 := by
  have hn0 : 0 < n := by omega
  have hm : n ≤ (n + b - 1) / b * b := by
    have := Nat.div_add_mod (n + b - 1) b
    have h2 := Nat.mod_lt (n + b - 1) hb
    rw [Nat.mul_comm] at this
    omega
  obtain ⟨q, hq⟩ : ∃ q, ((i1 + 1) * b + n - 1) / n = q := ⟨_, rfl⟩
  have hA : 0 < (i1 + 1) * b := Nat.mul_pos (by omega) hb
  have hd := Nat.div_add_mod ((i1 + 1) * b + n - 1) n
  have hl := Nat.mod_lt ((i1 + 1) * b + n - 1) hn0
  rw [hq, Nat.mul_comm] at hd
  have h1 : (i1 + 1) * b ≤ q * n := by omega
  have h2 : q * n ≤ (i1 + 1) * b + n - 1 := by omega
  have h3 : (i1 + 1) * b + n ≤ (i2 + 1) * b := by
    have h4 : (i1 + (n + b - 1) / b + 1) * b ≤ (i2 + 1) * b := Nat.mul_le_mul_right _ (by omega)
    have h5 : (i1 + (n + b - 1) / b + 1) * b = (i1 + 1) * b + (n + b - 1) / b * b := by rw [← Nat.add_mul]; congr 1; omega
    omega
  have hlt : q * n / b < i2 + 1 := (Nat.div_lt_iff_lt_mul hb).2 (by omega)
  refine ⟨q, ?_, ?_, (Nat.le_div_iff_mul_le hb).2 h1, by omega⟩
  · rcases Nat.eq_zero_or_pos q with h0 | h0
    · rw [h0] at h1; omega
    · exact h0
  · have h6 : q * n < b * n := by
      have h7 : (i2 + 1) * b ≤ n * b := Nat.mul_le_mul_right _ (by omega)
      have h8 : n * b = b * n := Nat.mul_comm _ _
      omega
    exact Nat.lt_of_mul_lt_mul_right h6

/-- None is missing, no two stand beside one another. -/
structure Unlike (L : List Nat) : Prop where
  no : ∀ f ∈ L, ¬ mis f
  ne : ∀ i j, i < L.length → j < L.length → i ≠ j → key (L.getD i 0) ≠ key (L.getD j 0)

theorem there_all {L : List Nat} (h : Bits64 L) (u : Unlike L) : thereL L = inOrder L := by
  unfold thereL
  refine List.filter_eq_self.2 fun x hx => ?_
  obtain ⟨b, hb, rfl⟩ := inOrder_of h hx
  have : ¬ mis (cln b) := by rw [mis_cln (h b hb)]; exact u.no b hb
  simpa using this
theorem keys_perm {L : List Nat} (h : Bits64 L) : ((inOrder L).map key).Perm (L.map key) := by
  have h1 := sortI_perm (keysOf L)
  rw [← inOrder_keys h] at h1
  unfold keysOf at h1
  have h2 := h1.map Int.toNat
  rw [List.map_map, List.map_map] at h2
  exact h2
theorem keys_nodup {L : List Nat} (u : Unlike L) : (L.map key).Nodup := by
  unfold List.Nodup
  rw [List.pairwise_map, List.pairwise_iff_getElem]
  intro i j hi hj hij
  have := u.ne i j hi hj (by omega)
  simpa [List.getD_eq_getElem?_getD, hi, hj] using this
theorem order_strict {L : List Nat} (h : Bits64 L) (u : Unlike L) {i j : Nat} (hij : i < j) (hj : j < (inOrder L).length) : key ((inOrder L).getD i 0) < key ((inOrder L).getD j 0) := by
  have h1 := (keys_perm h).nodup_iff.2 (keys_nodup u)
  unfold List.Nodup at h1
  rw [List.pairwise_map, List.pairwise_iff_getElem] at h1
  have h2 := List.pairwise_iff_getElem.1 (inOrder_up h) i j (by omega) hj hij
  have h3 := h1 i j (by omega) hj hij
  have e1 : (inOrder L).getD i 0 = (inOrder L)[i] := by simp [List.getD_eq_getElem?_getD, show i < (inOrder L).length by omega]
  have e2 : (inOrder L).getD j 0 = (inOrder L)[j] := by simp [List.getD_eq_getElem?_getD, hj]
  rw [e1, e2]
  omega

theorem count_less {E : List Nat} {ki kj e : Nat} (he : e ∈ E) (h1 : ki < key e) (h2 : key e ≤ kj) : E.countP (fun e => decide (key e ≤ ki)) < E.countP (fun e => decide (key e ≤ kj)) := by
  obtain ⟨s, t, rfl⟩ := List.append_of_mem he
  rw [List.countP_append, List.countP_append, List.countP_cons, List.countP_cons]
  have m1 : s.countP (fun e => decide (key e ≤ ki)) ≤ s.countP (fun e => decide (key e ≤ kj)) := List.countP_mono_left fun x _ hx => by simp at hx ⊢; omega
  have m2 : t.countP (fun e => decide (key e ≤ ki)) ≤ t.countP (fun e => decide (key e ≤ kj)) := List.countP_mono_left fun x _ hx => by simp at hx ⊢; omega
  rw [decide_eq_false (show ¬ key e ≤ ki by omega), decide_eq_true (show key e ≤ kj by omega)]
  simp
  omega

/-- No bin has more. -/
theorem even_num {L : List Nat} {b : Nat} (h : Bits64 L) (u : Unlike L) (hb : 2 ≤ b) (hb2 : b ≤ 256) (c : Nat) : L.countP (fun f => decide (binL (edgesL L (b : Int)) f = c)) ≤ (L.length + b - 1) / b := by
  have hE : edgesL L (b : Int) = cutsTo (inOrder L) b (b - 1) := by
    rw [edges_some (by omega) (by omega), there_all h u, Int.toNat_natCast]
  rw [hE]
  rcases Nat.eq_zero_or_pos L.length with h0 | h0
  · rw [List.eq_nil_of_length_eq_zero h0]; simp
  have hR : Rising (inOrder L) := by rw [← there_all h u]; exact there_rising h
  have hl : (inOrder L).length = L.length := inOrder_len L
  have I := cut_inv (bins := b) hR (by omega) (b - 1) (by omega)
  generalize cutsTo (inOrder L) b (b - 1) = E at I
  have e1 : L.countP (fun f => decide (binL E f = c)) = (L.map key).countP fun k => decide (1 + E.countP (fun e => decide (key e ≤ k)) = c) := by
    rw [List.countP_map]
    exact List.countP_congr fun f hf => by rw [binL_is (u.no f hf)]; rfl
  have e2 : (L.map key).countP (fun k => decide (1 + E.countP (fun e => decide (key e ≤ k)) = c)) = ((inOrder L).map key).countP fun k => decide (1 + E.countP (fun e => decide (key e ≤ k)) = c) := ((keys_perm h).countP_eq _).symm
  rw [e1, e2, List.countP_map, count_range, hl]
  refine count_near _ (by rw [Nat.le_div_iff_mul_le (by omega)]; omega) _ fun i j hij hj hpi hpj => ?_
  rcases Nat.lt_or_ge j (i + (L.length + b - 1) / b) with hlt | hge
  · exact hlt
  · obtain ⟨q, q1, q2, q3, q4⟩ := cut_between (b := b) (by omega) hj hge
    exfalso
    have hpi2 : 1 + E.countP (fun e => decide (key e ≤ key ((inOrder L).getD i 0))) = c := of_decide_eq_true hpi
    have hpj2 : 1 + E.countP (fun e => decide (key e ≤ key ((inOrder L).getD j 0))) = c := of_decide_eq_true hpj
    have hpos : posE (inOrder L) b q = (inOrder L).getD (q * L.length / b) 0 := by unfold posE; rw [hl]
    have k1 := order_strict h u q3 (by omega)
    have k0 : key ((inOrder L).getD 0 0) ≤ key ((inOrder L).getD i 0) := getD_key hR (Nat.zero_le _) (by omega)
    have k2 : key ((inOrder L).getD (q * L.length / b) 0) ≤ key ((inOrder L).getD j 0) := getD_key hR q4 (by omega)
    rcases I.all q q1 (by omega) with e | ⟨e, he, ek⟩
    · rw [hpos] at e; omega
    · rw [hpos] at ek
      have := count_less (E := E) (ki := key ((inOrder L).getD i 0)) (kj := key ((inOrder L).getD j 0)) he (by omega) (by omega)
      omega

end Go.Proofs.Ytmhdhifdkcadaaa
