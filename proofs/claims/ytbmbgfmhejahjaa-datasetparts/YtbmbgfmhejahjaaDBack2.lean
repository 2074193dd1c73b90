/-
  WHAT IS READ OF BYTES may be put, and has these bytes. Condition: at most 10000 bytes.
-/
import Derived.Test.YtbmbgfmhejahjaaDBack
namespace Go.Proofs.Ytbmbgfmhejahjaa
open Go.RowKit

theorem itL_lt (l : List UInt8) (n : Nat) : ∀ x ∈ itL l n, x < 18446744073709551616 := by
  induction n with
  | zero => intro x hx; cases hx
  | succ n ih =>
    intro x hx
    simp only [itL, List.mem_append, List.mem_singleton] at hx
    rcases hx with hx | rfl
    · exact ih x hx
    · exact num8_lt _
theorem wrap64_in (n : Int) : -9223372036854775808 ≤ wrap64 n ∧ wrap64 n ≤ 9223372036854775807 := by
  unfold wrap64
  have h1 := Int.emod_nonneg (n + 9223372036854775808) (show (18446744073709551616 : Int) ≠ 0 by decide)
  have h2 := Int.emod_lt_of_pos (n + 9223372036854775808) (show (0 : Int) < 18446744073709551616 by decide)
  generalize (n + 9223372036854775808) % 18446744073709551616 = m at *
  omega
theorem u64_wrap (x : Nat) (h : x < 18446744073709551616) : u64 (wrap64 (x : Int)) = x := by
  have : ((u64 (wrap64 (x : Int)) : Nat) : Int) = (x : Int) := by
    rw [u64_int, IntKind.wrap_u64]
    unfold wrap64
    rw [Int.sub_emod, Int.emod_emod_of_dvd _ (Int.dvd_refl _), ← Int.sub_emod, show (x : Int) + 9223372036854775808 - 9223372036854775808 = x by omega]
    exact Int.emod_eq_of_lt (Int.natCast_nonneg x) (by omega)
  exact Int.ofNat.inj this
theorem gTs_in (l : List UInt8) : In64s (gTs l) := by
  intro x hx
  unfold gTs tL at hx
  obtain ⟨y, _, rfl⟩ := List.mem_map.1 hx
  exact wrap64_in _
theorem gVs_lt (l : List UInt8) : ∀ x ∈ gVs l, x < 18446744073709551616 := itL_lt _ _
theorem gVs_len (l : List UInt8) : (gVs l).length = gr l * gq l := itL_len _ _
theorem gTs_len (l : List UInt8) : (gTs l).length = gr l := tL_len _ _
theorem eI_map (k c : Int) (L : List Nat) : eI (eT k c) (L.map fun (y : Nat) => wrap64 (y : Int)) = eI (eW k c) L := by
  induction L with
  | nil => rfl
  | cons x L ih =>
    show (if eT k c (wrap64 (x : Int)) = 0 then _ else _) = if eW k c x = 0 then _ else _
    rw [ih]
    rfl
theorem tB_map (L : List Nat) (h : ∀ x ∈ L, x < 18446744073709551616) : tB (L.map fun (y : Nat) => wrap64 (y : Int)) = vB L := by
  induction L with
  | nil => rfl
  | cons x L ih =>
    have e := ih (fun y hy => h y (List.mem_cons_of_mem _ hy))
    unfold tB at e ⊢
    rw [List.map_cons, List.flatMap_cons, e, u64_wrap x (h x List.mem_cons_self)]
    rfl
/-- What is told by nothing being wrong. -/
theorem gt_parts {l : List UInt8} (h : gtE l = 0) : l.take 4 = hB ∧ gE (l.drop 4) = 0 ∧ eR (gr l) = 0 ∧ 24 ≤ l.length ∧ eC (gr l) (gq l) = 0 ∧ itE eV (l.drop 24) (gr l * gq l) = 0 ∧ itE (eW (gc l 0) (gc l 1)) (l.drop (24 + 8 * (gr l * gq l))) (gr l) = 0 := by
  unfold gtE at h
  split at h
  · exact absurd h (by decide)
  split at h
  rotate_left
  · exact absurd h (by decide)
  unfold gE2 at h
  split at h
  · exact absurd h (by decide)
  obtain ⟨h1, h⟩ := orE_zero h
  unfold gE3 at h
  split at h
  · exact absurd h (by decide)
  obtain ⟨h2, h⟩ := orE_zero h
  unfold gE4 at h
  split at h
  · exact absurd h (by decide)
  obtain ⟨h3, h⟩ := orE_zero h
  obtain ⟨h4, h5⟩ := orE_zero h
  exact ⟨by assumption, h1, h2, by omega, h3, h4, h5⟩
theorem gS_le {l : List UInt8} (h : gtE l = 0) : gS l ≤ l.length := by
  obtain ⟨_, _, _, h24, _, h1, h2⟩ := gt_parts h
  have a1 := (itE_back _ _ _ h1).1
  have a2 := (itE_back _ _ _ h2).1
  rw [List.length_drop] at a1 a2
  unfold gS
  omega
theorem g_ok {l : List UInt8} (h : gtE l = 0) : eD (gc l 0) (gc l 1) (gc l 2) (gc l 3) (gc l 4) (gc l 5) (gc l 6) (gr l) (gq l) (gVs l) (gTs l) = 0 := by
  obtain ⟨_, h0, h1, h24, h2, h3, h4⟩ := gt_parts h
  have a1 := (itE_back _ _ _ h3).2.1
  have a2 := (itE_back _ _ _ h4).2.1
  have e1 := eR_le h1
  have e2 := eC_le h2
  have hs : shp (gr l) (gq l) (gVs l).length (gTs l).length := by
    rw [gVs_len, gTs_len]
    refine ⟨by omega, by omega, decide_eq_true ⟨Int.natCast_nonneg _, Int.natCast_nonneg _, by rw [Int.natCast_mul]⟩, rfl⟩
  unfold eD
  rw [if_pos hs]
  unfold eB
  rw [orE_0 (show chk (gc l 0) (gc l 1) (gc l 2) (gc l 3) (gc l 4) (gc l 5) (gc l 6) = 0 from h0), orE_0 h1, orE_0 h2, orE_0 (show eI eV (gVs l) = 0 from a1)]
  unfold gTs tL
  rw [eI_map]
  exact a2
theorem g_bytes {l : List UInt8} (h : gtE l = 0) (hl : l.length ≤ gS l) : dsb (gc l 0) (gc l 1) (gc l 2) (gc l 3) (gc l 4) (gc l 5) (gc l 6) (gr l) (gq l) (gVs l) (gTs l) = l := by
  obtain ⟨h0, _, _, h24, _, h3, h4⟩ := gt_parts h
  obtain ⟨a1, _, a3⟩ := itE_back _ _ _ h3
  obtain ⟨b1, _, b3⟩ := itE_back _ _ _ h4
  have hh := num_small (l.drop 18) 4 (by decide)
  have hq := num_two (l.drop 22)
  have l14 : ((l.drop 4).take 14).length = 14 := by rw [List.length_take, List.length_drop]; omega
  have l4 : ((l.drop 18).take 4).length = 4 := by rw [List.length_take, List.length_drop]; omega
  have l2 : ((l.drop 22).take 2).length = 2 := by rw [List.length_take, List.length_drop]; omega
  have c1 : cb (gc l 0) (gc l 1) (gc l 2) (gc l 3) (gc l 4) (gc l 5) (gc l 6) = (l.drop 4).take 14 := by
    have := cb_gN _ l14
    rw [← gN14 (l.drop 4) 0 (by omega), ← gN14 (l.drop 4) 1 (by omega), ← gN14 (l.drop 4) 2 (by omega), ← gN14 (l.drop 4) 3 (by omega), ← gN14 (l.drop 4) 4 (by omega), ← gN14 (l.drop 4) 5 (by omega), ← gN14 (l.drop 4) 6 (by omega)] at this
    exact this
  have c2 : bts (u64 (gr l : Int)) 4 = (l.drop 18).take 4 := by
    have := bts_num ((l.drop 18).take 4)
    rw [l4] at this
    rw [u64_nat _ (by unfold gr; omega)]
    exact this
  have c3 : bts (u64 (gq l : Int)) 2 = (l.drop 22).take 2 := by
    have := bts_num ((l.drop 22).take 2)
    rw [l2] at this
    rw [u64_nat _ (by unfold gq; omega)]
    exact this
  have c5 : tB (gTs l) = (l.drop (24 + 8 * (gr l * gq l))).take (8 * gr l) := by
    unfold gTs tL
    rw [tB_map _ (itL_lt _ _)]
    exact b3
  rw [List.length_drop] at a1 b1
  have t : ∀ a b, l.take a ++ (l.drop a).take b = l.take (a + b) := fun a b => List.take_add.symm
  unfold dsb hd
  rw [c1, c2, c3, c5, show vB (gVs l) = (l.drop 24).take (8 * (gr l * gq l)) from a3, ← h0, t, t, t, t, t]
  exact List.take_of_length_le hl
theorem fu_parts {l : List UInt8} (h : fuE l = 0) : gtE l = 0 ∧ l.length ≤ gS l := by
  obtain ⟨h1, h2⟩ := orE_zero h
  refine ⟨h1, ?_⟩
  split at h2
  · assumption
  · exact absurd h2 (by decide)
end Go.Proofs.Ytbmbgfmhejahjaa
