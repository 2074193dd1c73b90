/-
  A DATASET'S BYTES, READ, and what is read, put: there and back. Condition: numbers of 64 bits.
-/
import Derived.Test.YtbmbgfmhejahjaaDNum
namespace Go.Proofs.Ytbmbgfmhejahjaa
open Go.RowKit

theorem pre_seg {l X : List UInt8} {m : Nat} (h : l = X.take m) (a b : Nat) (hab : a + b ≤ l.length) : (l.drop a).take b = (X.drop a).take b := by
  subst h
  rw [List.length_take] at hab
  rw [List.drop_take, List.take_take, Nat.min_eq_left (by omega)]
theorem gN14 (L : List UInt8) (j : Nat) (hj : j < 7) : gN L j = gN (L.take 14) j := by
  unfold gN
  have h1 := fO_step j hj
  have h2 := fO_le (j + 1)
  rw [List.drop_take, List.take_take, Nat.min_eq_left (by omega)]
theorem gE14 (L : List UInt8) : gE L = gE (L.take 14) := by
  unfold gE
  rw [gN14 L 0 (by omega), gN14 L 1 (by omega), gN14 L 2 (by omega), gN14 L 3 (by omega), gN14 L 4 (by omega), gN14 L 5 (by omega), gN14 L 6 (by omega)]
theorem dl {α : Type} (x y : List α) (n : Nat) (h : x.length = n) : (x ++ y).drop n = y := by subst h; exact List.drop_left
theorem ttl {α : Type} (x y : List α) (n : Nat) (h : x.length = n) : (x ++ y).take n = x := by subst h; exact List.take_left

section
variable {k c b t d lf p : Int} {r q : Nat} {V : List Nat} {T : List Int} {rest : List UInt8}
theorem seg_all : (dsb k c b t d lf p r q V T ++ rest).take 4 = hB ∧ ((dsb k c b t d lf p r q V T ++ rest).drop 4).take 14 = cb k c b t d lf p ∧ ((dsb k c b t d lf p r q V T ++ rest).drop 18).take 4 = bts (u64 r) 4 ∧ ((dsb k c b t d lf p r q V T ++ rest).drop 22).take 2 = bts (u64 q) 2 ∧ (dsb k c b t d lf p r q V T ++ rest).drop 24 = vB V ++ (tB T ++ rest) := by
  have e : dsb k c b t d lf p r q V T ++ rest = hB ++ (cb k c b t d lf p ++ (bts (u64 r) 4 ++ (bts (u64 q) 2 ++ (vB V ++ (tB T ++ rest))))) := by
    unfold dsb hd
    simp only [List.append_assoc]
  have d4 : (dsb k c b t d lf p r q V T ++ rest).drop 4 = cb k c b t d lf p ++ (bts (u64 r) 4 ++ (bts (u64 q) 2 ++ (vB V ++ (tB T ++ rest)))) := by rw [e]; exact dl _ _ 4 rfl
  have d18 : (dsb k c b t d lf p r q V T ++ rest).drop 18 = bts (u64 r) 4 ++ (bts (u64 q) 2 ++ (vB V ++ (tB T ++ rest))) := by
    rw [show 18 = 4 + 14 from rfl, ← List.drop_drop, d4]; exact dl _ _ 14 (cb_len _ _ _ _ _ _ _)
  have d22 : (dsb k c b t d lf p r q V T ++ rest).drop 22 = bts (u64 q) 2 ++ (vB V ++ (tB T ++ rest)) := by
    rw [show 22 = 18 + 4 from rfl, ← List.drop_drop, d18]; exact dl _ _ 4 (bts_len _ _)
  have d24 : (dsb k c b t d lf p r q V T ++ rest).drop 24 = vB V ++ (tB T ++ rest) := by
    rw [show 24 = 22 + 2 from rfl, ← List.drop_drop, d22]; exact dl _ _ 2 (bts_len _ _)
  refine ⟨by rw [e]; exact ttl _ _ 4 rfl, by rw [d4]; exact ttl _ _ 14 (cb_len _ _ _ _ _ _ _), by rw [d18]; exact ttl _ _ 4 (bts_len _ _), by rw [d22]; exact ttl _ _ 2 (bts_len _ _), d24⟩
theorem u64_nat (n : Nat) (h : n < 18446744073709551616) : u64 (n : Int) = n := by
  unfold u64
  rw [IntKind.wrap_u64]
  omega
theorem num4 (n : Nat) (h : n < 4294967296) : num (bts (u64 (n : Int)) 4) = n := by
  rw [u64_nat n (by omega), num_bts, Nat.mod_eq_of_lt (by have : (256 : Nat) ^ 4 = 4294967296 := by decide
                                                          omega)]
theorem num2 (n : Nat) (h : n < 65536) : num (bts (u64 (n : Int)) 2) = n := by
  rw [u64_nat n (by omega), num_bts, Nat.mod_eq_of_lt (by have : (256 : Nat) ^ 2 = 65536 := by decide
                                                          omega)]
variable {l : List UInt8} {m : Nat}
theorem f4 (h : l = (dsb k c b t d lf p r q V T ++ rest).take m) (hl : 4 ≤ l.length) : l.take 4 = hB := by
  have := pre_seg h 0 4 (by omega)
  rw [List.drop_zero, List.drop_zero] at this
  exact this.trans seg_all.1
theorem f18 (h : l = (dsb k c b t d lf p r q V T ++ rest).take m) (hc : chk k c b t d lf p = 0) (hl : 18 ≤ l.length) : gE (l.drop 4) = 0 ∧ ∀ j, j < 7 → gc l j = nf k c b t d lf p j := by
  have e := (pre_seg h 4 14 (by omega)).trans seg_all.2.1
  refine ⟨by rw [gE14, e]; exact gE_cb hc, fun j hj => ?_⟩
  show gN (l.drop 4) j = _
  rw [gN14 _ j hj, e]
  exact gN_cb hc j hj
theorem f22 (h : l = (dsb k c b t d lf p r q V T ++ rest).take m) (hr : r < 4294967296) (hl : 22 ≤ l.length) : gr l = r := by
  unfold gr
  rw [pre_seg h 18 4 (by omega), seg_all.2.2.1]
  exact num4 r hr
theorem f24 (h : l = (dsb k c b t d lf p r q V T ++ rest).take m) (hq : q < 65536) (hl : 24 ≤ l.length) : gq l = q := by
  unfold gq
  rw [pre_seg h 22 2 (by omega), seg_all.2.2.2.1]
  exact num2 q hq
theorem fV (h : l = (dsb k c b t d lf p r q V T ++ rest).take m) : l.drop 24 = (vB V ++ (tB T ++ rest)).take (m - 24) := by
  rw [h, List.drop_take, seg_all.2.2.2.2]
/-- Targets, by their numbers. -/
def tN (T : List Int) : List Nat := T.map u64
theorem tB_tN (T : List Int) : tB T = vB (tN T) := by simp [tB, vB, tN, List.flatMap_map]
theorem tN_len (T : List Int) : (tN T).length = T.length := by simp [tN]
theorem tN_lt (T : List Int) : ∀ x ∈ tN T, x < 18446744073709551616 := by
  intro x hx
  obtain ⟨y, _, rfl⟩ := List.mem_map.1 hx
  have := u64_int y
  rw [IntKind.wrap_u64] at this
  omega
/-- Whole numbers of 64 bits. -/
def In64s (T : List Int) : Prop := ∀ x ∈ T, -9223372036854775808 ≤ x ∧ x ≤ 9223372036854775807
theorem wrap_u64_back (x : Int) (h : -9223372036854775808 ≤ x ∧ x ≤ 9223372036854775807) : wrap64 (u64 x : Int) = x := by
  rw [u64_int, IntKind.wrap_u64]
  unfold wrap64
  omega
theorem eI_tN (k c : Int) (T : List Int) (h : In64s T) : eI (eW k c) (tN T) = eI (eT k c) T := by
  induction T with
  | nil => rfl
  | cons x T ih =>
    have e : eW k c (u64 x) = eT k c x := by unfold eW; rw [wrap_u64_back x (h x List.mem_cons_self)]
    show (if eW k c (u64 x) = 0 then eI (eW k c) (tN T) else eW k c (u64 x)) = if eT k c x = 0 then eI (eT k c) T else eT k c x
    rw [e, ih (fun y hy => h y (List.mem_cons_of_mem _ hy))]
theorem tN_back (T : List Int) (h : In64s T) : (tN T).map (fun (y : Nat) => wrap64 (y : Int)) = T := by
  induction T with
  | nil => rfl
  | cons x T ih =>
    have e := wrap_u64_back x (h x List.mem_cons_self)
    have e2 := ih (fun y hy => h y (List.mem_cons_of_mem _ hy))
    unfold tN at e2 ⊢
    rw [List.map_cons, List.map_cons, e, e2]

/-- What is told of a dataset's bytes, and whatever stands behind them. -/
theorem gt_all (hc : chk k c b t d lf p = 0) (hr : r < 4294967296) (hq : r = 0 ∨ q < 65536) (hV : V.length = r * q) (hT : T.length = r) (h64 : ∀ x ∈ V, x < 18446744073709551616) (ht : In64s T) (rest : List UInt8) :
    gtE (dsb k c b t d lf p r q V T ++ rest) = orE (eR r) (orE (eC r q) (orE (eI eV V) (eI (eT k c) T))) := by
  obtain ⟨l, hl⟩ : ∃ l, l = dsb k c b t d lf p r q V T ++ rest := ⟨_, rfl⟩
  have hlen : 24 ≤ l.length := by rw [hl, List.length_append, dsb_len]; omega
  have h : l = (dsb k c b t d lf p r q V T ++ rest).take l.length := by rw [← hl]; exact (List.take_of_length_le (Nat.le_refl _)).symm
  rw [← hl]
  unfold gtE gE2 gE3 gE4
  rw [if_neg (by omega), if_pos (f4 h (by omega)), if_neg (by omega), orE_0 (f18 h hc (by omega)).1, if_neg (by omega), f22 h hr (by omega), if_neg (by omega)]
  rcases hq with h0 | hq
  · have e0 : eR (r : Int) ≠ 0 := by rw [h0]; decide
    rw [orE_1 e0, orE_1 e0]
  · rw [f24 h hq hlen]
    have hd : l.drop 24 = vB V ++ (tB T ++ rest) := by rw [hl]; exact seg_all.2.2.2.2
    unfold gE5
    rw [f24 h hq hlen, f22 h hr (by omega), (f18 h hc (by omega)).2 0 (by omega), (f18 h hc (by omega)).2 1 (by omega), ← hV, show 24 + 8 * V.length = 24 + 8 * V.length from rfl, ← List.drop_drop, hd, vB_drop, itE_vB _ _ _ h64, tB_tN, ← hT, ← tN_len T, itE_vB _ _ _ (tN_lt T)]
    rw [show nf k c b t d lf p 0 = k from rfl, show nf k c b t d lf p 1 = c from rfl, eI_tN k c T ht, tN_len]
theorem gt_cut (hc : chk k c b t d lf p = 0) (hr : r < 4294967296) (hq : q < 65536) (hV : V.length = r * q) (hT : T.length = r) (h64 : ∀ x ∈ V, x < 18446744073709551616) (ht : In64s T)
    (e1 : eR r = 0) (e2 : eC r q = 0) (e3 : eI eV V = 0) (e4 : eI (eT k c) T = 0) (m : Nat) (hm : m < (dsb k c b t d lf p r q V T).length) : gtE ((dsb k c b t d lf p r q V T).take m) = 2 := by
  obtain ⟨l, hl⟩ : ∃ l, l = (dsb k c b t d lf p r q V T).take m := ⟨_, rfl⟩
  have hlen : l.length = m := by rw [hl, List.length_take]; omega
  have h : l = (dsb k c b t d lf p r q V T ++ []).take m := by rw [List.append_nil]; exact hl
  rw [← hl]
  unfold gtE gE2 gE3 gE4
  by_cases h4 : l.length < 4
  · rw [if_pos h4]
  rw [if_neg h4, if_pos (f4 h (by omega))]
  by_cases h18 : l.length < 18
  · rw [if_pos h18]
  rw [if_neg h18, orE_0 (f18 h hc (by omega)).1]
  by_cases h22 : l.length < 22
  · rw [if_pos h22]
  rw [if_neg h22, f22 h hr (by omega), orE_0 e1]
  by_cases h24 : l.length < 24
  · rw [if_pos h24]
  rw [if_neg h24, f24 h hq (by omega), orE_0 e2]
  unfold gE5
  rw [f24 h hq (by omega), f22 h hr (by omega), (f18 h hc (by omega)).2 0 (by omega), (f18 h hc (by omega)).2 1 (by omega), ← hV]
  rw [dsb_len] at hm
  have hd := fV h
  rw [show nf k c b t d lf p 0 = k from rfl, show nf k c b t d lf p 1 = c from rfl]
  by_cases hv : m - 24 < 8 * V.length
  · rw [hd, itE_cut eV V _ h64 e3 _ hv]
    rfl
  · have hd2 : (vB V ++ (tB T ++ [])).take (m - 24) = vB V ++ (tB T ++ []).take (m - 24 - 8 * V.length) := by
      rw [List.take_append, vB_len, List.take_of_length_le (by rw [vB_len]; omega)]
    rw [hd2] at hd
    rw [← List.drop_drop, hd, vB_drop, itE_vB eV V _ h64, orE_0 e3, tB_tN, ← hT, ← tN_len T]
    exact itE_cut _ _ _ (tN_lt T) (by rw [eI_tN k c T ht]; exact e4) _ (by rw [tN_len]; omega)
/-- What is read of a dataset's bytes. -/
theorem g_all (hc : chk k c b t d lf p = 0) (hr : r < 4294967296) (hq : q < 65536) (hV : V.length = r * q) (hT : T.length = r) (h64 : ∀ x ∈ V, x < 18446744073709551616) (ht : In64s T) (rest : List UInt8) :
    gS (dsb k c b t d lf p r q V T ++ rest) = (dsb k c b t d lf p r q V T).length ∧ gVs (dsb k c b t d lf p r q V T ++ rest) = V ∧ gTs (dsb k c b t d lf p r q V T ++ rest) = T ∧ ∀ v x, gDv (dsb k c b t d lf p r q V T ++ rest) v x = ds k c b t d lf p r q v x := by
  obtain ⟨l, hl⟩ : ∃ l, l = dsb k c b t d lf p r q V T ++ rest := ⟨_, rfl⟩
  have hlen : 24 ≤ l.length := by rw [hl, List.length_append, dsb_len]; omega
  have h : l = (dsb k c b t d lf p r q V T ++ rest).take l.length := by rw [← hl]; exact (List.take_of_length_le (Nat.le_refl _)).symm
  have hd : l.drop 24 = vB V ++ (tB T ++ rest) := by rw [hl]; exact seg_all.2.2.2.2
  rw [← hl]
  have g1 := f22 h hr (by omega)
  have g2 := f24 h hq hlen
  have g3 := (f18 h hc (by omega)).2
  refine ⟨by unfold gS; rw [g1, g2, dsb_len, hV, hT], ?_, ?_, fun v x => ?_⟩
  · unfold gVs
    rw [g1, g2, hd, ← hV, itL_vB V _ h64 _ (Nat.le_refl _), List.take_of_length_le (Nat.le_refl _)]
  · unfold gTs tL
    rw [g1, g2, ← hV, ← List.drop_drop, hd, vB_drop, tB_tN, ← hT, ← tN_len T, itL_vB _ _ (tN_lt T) _ (Nat.le_refl _), List.take_of_length_le (Nat.le_refl _), tN_back T ht]
  · unfold gDv
    rw [g1, g2, g3 0 (by omega), g3 1 (by omega), g3 2 (by omega), g3 3 (by omega), g3 4 (by omega), g3 5 (by omega), g3 6 (by omega)]
    rfl
end
end Go.Proofs.Ytbmbgfmhejahjaa
