/-
  A DATASET'S BYTES, READ: of any bytes that begin as a dataset's do, what is told is what is wrong with it; of fewer, that they end; the bytes of what is read are those that were read. Condition: numbers of 64 bits.
-/
import Derived.Test.YtbmbgfmhejahjaaDGet
import Derived.Test.YtbmbgfmhejahjaaCNum
namespace Go.Proofs.Ytbmbgfmhejahjaa
open Go.RowKit

theorem num_bts8 (x : Nat) (h : x < 18446744073709551616) : num (bts x 8) = x := by
  rw [num_bts, Nat.mod_eq_of_lt (by have : (256 : Nat) ^ 8 = 18446744073709551616 := by decide
                                    omega)]
theorem take8 (x : Nat) (r : List UInt8) : (bts x 8 ++ r).take 8 = bts x 8 := by
  rw [List.take_append_of_le_length (by rw [bts_len]; exact Nat.le_refl 8), List.take_of_length_le (by rw [bts_len]; exact Nat.le_refl 8)]
theorem drop8 (x : Nat) (r : List UInt8) : (bts x 8 ++ r).drop 8 = r := by
  rw [List.drop_append_of_le_length (by rw [bts_len]; exact Nat.le_refl 8), List.drop_of_length_le (by rw [bts_len]; exact Nat.le_refl 8), List.nil_append]
theorem vB_cons (x : Nat) (V : List Nat) : vB (x :: V) = bts x 8 ++ vB V := rfl
theorem itE_vB (L : Nat → Int) (V : List Nat) (rest : List UInt8) (h : ∀ x ∈ V, x < 18446744073709551616) : itE L (vB V ++ rest) V.length = eI L V := by
  induction V with
  | nil => rfl
  | cons x V ih =>
    rw [vB_cons, List.append_assoc, List.length_cons]
    have hl : ¬ (bts x 8 ++ (vB V ++ rest)).length < 8 := by rw [List.length_append, bts_len]; omega
    simp only [itE]
    rw [if_neg hl, take8, drop8, num_bts8 x (h x List.mem_cons_self), ih (fun y hy => h y (List.mem_cons_of_mem _ hy))]
    rfl
theorem itE_cut (L : Nat → Int) (V : List Nat) (rest : List UInt8) (h : ∀ x ∈ V, x < 18446744073709551616) (hz : eI L V = 0) (m : Nat) (hm : m < 8 * V.length) : itE L ((vB V ++ rest).take m) V.length = 2 := by
  induction V generalizing m with
  | nil => simp at hm
  | cons x V ih =>
    rw [vB_cons, List.append_assoc, List.length_cons]
    rw [List.length_cons] at hm
    obtain ⟨hx, hz⟩ : L x = 0 ∧ eI L V = 0 := by
      unfold eI at hz
      split at hz
      · exact ⟨by assumption, hz⟩
      · contradiction
    simp only [itE]
    by_cases h8 : ((bts x 8 ++ (vB V ++ rest)).take m).length < 8
    · rw [if_pos h8]
    · have hm8 : 8 ≤ m := by
        rw [List.length_take] at h8; omega
      rw [if_neg h8, List.take_take, Nat.min_eq_left hm8, take8, num_bts8 x (h x List.mem_cons_self), orE_0 hx, List.drop_take, drop8]
      exact ih (fun y hy => h y (List.mem_cons_of_mem _ hy)) hz (m - 8) (by omega)
theorem itL_vB (V : List Nat) (rest : List UInt8) (h : ∀ x ∈ V, x < 18446744073709551616) (n : Nat) (hn : n ≤ V.length) : itL (vB V ++ rest) n = V.take n := by
  have hd : ∀ (V : List Nat) (n : Nat), n ≤ V.length → (vB V ++ rest).drop (8 * n) = vB (V.drop n) ++ rest := by
    intro V n
    induction n generalizing V with
    | zero => intro _; rfl
    | succ n ih =>
      intro hn
      cases V with
      | nil => simp at hn
      | cons x V =>
        rw [List.length_cons] at hn
        rw [vB_cons, List.append_assoc, show 8 * (n + 1) = 8 + 8 * n by omega, ← List.drop_drop, drop8, ih V (by omega)]
        rfl
  induction n with
  | zero => rfl
  | succ n ih =>
    have hnl : n < V.length := hn
    simp only [itL]
    rw [ih (by omega), hd V n (by omega), List.drop_eq_getElem_cons hnl, vB_cons, List.append_assoc, take8, num_bts8 _ (h _ (List.getElem_mem _)), List.take_add_one, List.getElem?_eq_getElem hnl]
    rfl
theorem vB_drop (V : List Nat) (rest : List UInt8) : (vB V ++ rest).drop (8 * V.length) = rest := by
  rw [← vB_len, List.drop_left]
/-- What is read has the bytes that were read. -/
theorem itE_back (L : Nat → Int) (l : List UInt8) (n : Nat) (h : itE L l n = 0) : 8 * n ≤ l.length ∧ eI L (itL l n) = 0 ∧ vB (itL l n) = l.take (8 * n) := by
  have key : ∀ (n : Nat) (l : List UInt8), itE L l n = 0 → 8 * n ≤ l.length ∧ ∀ j, j < n → L (num ((l.drop (8 * j)).take 8)) = 0 := by
    intro n
    induction n with
    | zero => intro l _; exact ⟨by omega, fun j hj => by omega⟩
    | succ n ih =>
      intro l h
      simp only [itE] at h
      by_cases h8 : l.length < 8
      · rw [if_pos h8] at h; exact absurd h (by decide)
      · rw [if_neg h8] at h
        obtain ⟨h1, h2⟩ := orE_zero h
        obtain ⟨h3, h4⟩ := ih _ h2
        rw [List.length_drop] at h3
        refine ⟨by omega, fun j hj => ?_⟩
        cases j with
        | zero => exact h1
        | succ j =>
          have := h4 j (by omega)
          rw [List.drop_drop, show 8 + 8 * j = 8 * (j + 1) by omega] at this
          exact this
  obtain ⟨h1, h2⟩ := key n l h
  refine ⟨h1, ?_, ?_⟩
  · clear h
    have : ∀ m, m ≤ n → eI L (itL l m) = 0 := by
      intro m
      induction m with
      | zero => intro _; rfl
      | succ m ih =>
        intro hm
        have a : ∀ (V : List Nat) (x : Nat), eI L V = 0 → L x = 0 → eI L (V ++ [x]) = 0 := by
          intro V x
          induction V with
          | nil => intro _ hx; simp [eI, hx]
          | cons y V ihV =>
            intro hV hx
            unfold eI at hV
            split at hV
            · show eI L (y :: (V ++ [x])) = 0
              unfold eI
              rw [if_pos (by assumption)]
              exact ihV hV hx
            · contradiction
        exact a _ _ (ih (by omega)) (h2 m (by omega))
    exact this n (Nat.le_refl n)
  · clear h h2
    have : ∀ m, m ≤ n → vB (itL l m) = l.take (8 * m) := by
      intro m
      induction m with
      | zero => intro _; rfl
      | succ m ih =>
        intro hm
        have e : vB (itL l (m + 1)) = vB (itL l m) ++ bts (num ((l.drop (8 * m)).take 8)) 8 := by
          simp only [itL, vB, List.flatMap_append, List.flatMap_cons, List.flatMap_nil, List.append_nil]
        have h8 : ((l.drop (8 * m)).take 8).length = 8 := by rw [List.length_take, List.length_drop]; omega
        have hb := bts_num ((l.drop (8 * m)).take 8)
        rw [h8] at hb
        rw [e, ih (by omega), hb, show 8 * (m + 1) = 8 * m + 8 by omega, List.take_add]
    exact this n (Nat.le_refl n)
end Go.Proofs.Ytbmbgfmhejahjaa
