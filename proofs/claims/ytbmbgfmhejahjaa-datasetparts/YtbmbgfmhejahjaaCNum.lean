/-
  A config's numbers, of its bytes, and its bytes, of its numbers. No condition but that it may be.
-/
import Derived.Test.YtbmbgfmhejahjaaTaken
namespace Go.Proofs.Ytbmbgfmhejahjaa
open Go.RowKit

theorem bts_add (a m k : Nat) : bts (a * 256 ^ k + m) k = bts m k := by
  induction k generalizing a with
  | zero => rfl
  | succ k ih =>
    have e : a * 256 ^ (k + 1) + m = a * 256 * 256 ^ k + m := by rw [Nat.pow_succ]; grind
    have hp : 0 < 256 ^ k := Nat.pow_pos (by decide)
    show byt ((a * 256 ^ (k + 1) + m) / 256 ^ k) :: bts (a * 256 ^ (k + 1) + m) k = byt (m / 256 ^ k) :: bts m k
    rw [e, ih (a * 256)]
    congr 1
    apply UInt8.toNat_inj.1
    rw [byt_toNat, byt_toNat, Nat.mul_comm (a * 256), Nat.mul_add_div hp]
    omega
theorem num_cons (x : UInt8) (l : List UInt8) : num (x :: l) = x.toNat * 256 ^ l.length + num l := by
  have e : num (x :: l) = List.foldl (fun n x => 256 * n + x.toNat) (256 * 0 + x.toNat) l := rfl
  rw [e, foldl_num, Nat.mul_zero, Nat.zero_add]
theorem bts_num (l : List UInt8) : bts (num l) l.length = l := by
  induction l with
  | nil => rfl
  | cons x l ih =>
    have hn := num_lt l
    have hp : 0 < 256 ^ l.length := Nat.pow_pos (by decide)
    show byt (num (x :: l) / 256 ^ l.length) :: bts (num (x :: l)) l.length = x :: l
    rw [num_cons, bts_add, ih]
    congr 1
    apply UInt8.toNat_inj.1
    rw [byt_toNat, Nat.mul_comm, Nat.mul_add_div hp, Nat.div_eq_of_lt hn]
    have := x.toNat_lt
    omega
theorem u64_of (n : Int) (h0 : 0 ≤ n) (h1 : n < 4294967296) : u64 n = n.toNat := by
  unfold u64
  rw [IntKind.wrap_u64]
  omega

/-- The bytes of the first so many fields of what bytes are taken as. -/
theorem bf_gN (l : List UInt8) (hl : l.length = 14) (j : Nat) (hj : j ≤ 7) : bf (gN l) j = l.take (fO j) := by
  induction j with
  | zero => rfl
  | succ j ih =>
    have st := fO_step j (by omega)
    have sl := fO_le (j + 1)
    have hlen : ((l.drop (fO j)).take (cnt (fB j))).length = cnt (fB j) := by
      rw [List.length_take, List.length_drop]; omega
    show bf (gN l) j ++ bts (u64 (gN l j)) (cnt (fB j)) = _
    rw [ih (by omega), u64_of _ (gN_lo l j) (gN_hi l j), st, List.take_add]
    congr 1
    show bts ((num ((l.drop (fO j)).take (cnt (fB j))) : Nat) : Int).toNat (cnt (fB j)) = _
    rw [Int.toNat_natCast]
    have e := bts_num ((l.drop (fO j)).take (cnt (fB j)))
    rw [hlen] at e
    exact e
theorem bf_ext (f g : Nat → Int) (j : Nat) (h : ∀ t, t < j → f t = g t) : bf f j = bf g j := by
  induction j with
  | zero => rfl
  | succ j ih =>
    show bf f j ++ bts (u64 (f j)) (cnt (fB j)) = bf g j ++ bts (u64 (g j)) (cnt (fB j))
    rw [ih fun t ht => h t (by omega), h j (by omega)]
theorem cb_gN (l : List UInt8) (hl : l.length = 14) : cb (gN l 0) (gN l 1) (gN l 2) (gN l 3) (gN l 4) (gN l 5) (gN l 6) = l := by
  unfold cb
  rw [bf_ext _ (gN l) 7 fun t ht => nf_gN l t ht, bf_gN l hl 7 (by omega)]
  exact List.take_of_length_le (by rw [hl]; decide)

/-- How great a field's number may be. -/
theorem chk_fits {k c b t d l p : Int} (h : chk k c b t d l p = 0) (j : Nat) (hj : j < 7) : 0 ≤ nf k c b t d l p j ∧ nf k c b t d l p j < 256 ^ cnt (fB j) := by
  obtain ⟨a0, a1, a2, a3, a4, a5, a6, a7, a8, a9, a10⟩ := chk_ok h
  match j with
  | 0 => rw [show ((256 : Int) ^ cnt (fB 0)) = 256 from by decide]; simp only [nf]; omega
  | 1 => rw [show ((256 : Int) ^ cnt (fB 1)) = 65536 from by decide]; simp only [nf]; omega
  | 2 => rw [show ((256 : Int) ^ cnt (fB 2)) = 65536 from by decide]; simp only [nf]; omega
  | 3 => rw [show ((256 : Int) ^ cnt (fB 3)) = 65536 from by decide]; simp only [nf]; omega
  | 4 => rw [show ((256 : Int) ^ cnt (fB 4)) = 256 from by decide]; simp only [nf]; omega
  | 5 => rw [show ((256 : Int) ^ cnt (fB 5)) = 4294967296 from by decide]; simp only [nf]; omega
  | 6 => rw [show ((256 : Int) ^ cnt (fB 6)) = 65536 from by decide]; simp only [nf]; omega
  | n + 7 => omega
theorem bf_len2 (f : Nat → Int) (j : Nat) (hj : j ≤ 7) : (bf f j).length = fO j := by
  induction j with
  | zero => rfl
  | succ j ih =>
    show (bf f j ++ bts (u64 (f j)) (cnt (fB j))).length = _
    rw [List.length_append, ih (by omega), bts_len, fO_step j (by omega)]
theorem fO_mono (j i : Nat) (h : j ≤ i) : fO j ≤ fO i := by
  induction i with
  | zero =>
    obtain rfl : j = 0 := by omega
    exact Nat.le_refl _
  | succ i ih =>
    by_cases e : j = i + 1
    · subst e; exact Nat.le_refl _
    · refine Nat.le_trans (ih (by omega)) ?_
      by_cases h7 : i < 7
      · rw [fO_step i h7]; exact Nat.le_add_right _ _
      · match i with
        | n + 7 => exact Nat.le_refl 14
/-- A field's bytes stand where they stand. -/
theorem bf_part (f : Nat → Int) (j i : Nat) (hi : i ≤ 7) (hj : j < i) : ((bf f i).drop (fO j)).take (cnt (fB j)) = bts (u64 (f j)) (cnt (fB j)) := by
  induction i with
  | zero => omega
  | succ i ih =>
    have hl := bf_len2 f i (by omega)
    show ((bf f i ++ bts (u64 (f i)) (cnt (fB i))).drop (fO j)).take (cnt (fB j)) = _
    by_cases e : j = i
    · subst e
      rw [List.drop_append, hl, Nat.sub_self, List.drop_zero, List.drop_of_length_le (by omega), List.nil_append, List.take_of_length_le (by rw [bts_len]; exact Nat.le_refl _)]
    · have h1 : fO (j + 1) ≤ fO i := fO_mono (j + 1) i (by omega)
      have st := fO_step j (by omega)
      rw [List.drop_append_of_le_length (by omega), List.take_append_of_le_length (by rw [List.length_drop]; omega)]
      exact ih (by omega) (by omega)
theorem gN_cb {k c b t d l p : Int} (h : chk k c b t d l p = 0) (j : Nat) (hj : j < 7) : gN (cb k c b t d l p) j = nf k c b t d l p j := by
  obtain ⟨h0, h1⟩ := chk_fits h j hj
  unfold gN cb
  rw [bf_part _ j 7 (by omega) hj, num_bts]
  generalize nf k c b t d l p j = n at *
  have h2 : (256 : Int) ^ cnt (fB j) = ((256 ^ cnt (fB j) : Nat) : Int) := by rw [Int.natCast_pow]; rfl
  rw [h2] at h1
  have h3 : (256 : Nat) ^ cnt (fB j) ≤ 256 ^ 4 := Nat.pow_le_pow_right (by decide) (by
    match j with
    | 0 => decide
    | 1 => decide
    | 2 => decide
    | 3 => decide
    | 4 => decide
    | 5 => decide
    | n + 6 => exact (by decide : cnt 2 ≤ 4))
  have h4 : (256 : Nat) ^ 4 = 4294967296 := by decide
  rw [u64_of n h0 (by omega), Nat.mod_eq_of_lt (by omega)]
  omega
theorem gE_cb {k c b t d l p : Int} (h : chk k c b t d l p = 0) : gE (cb k c b t d l p) = 0 := by
  unfold gE
  rw [gN_cb h 0 (by omega), gN_cb h 1 (by omega), gN_cb h 2 (by omega), gN_cb h 3 (by omega), gN_cb h 4 (by omega), gN_cb h 5 (by omega), gN_cb h 6 (by omega)]
  exact h
theorem tk_cb {k c b t d l p : Int} (h : chk k c b t d l p = 0) : tkE (cb k c b t d l p) = 0 ∧ tkV (cb k c b t d l p) = cf k c b t d l p := by
  have e : tkE (cb k c b t d l p) = 0 := by
    unfold tkE
    rw [cb_len, if_neg (by omega), if_pos (gE_cb h), if_pos rfl]
  refine ⟨e, (if_pos e).trans ?_⟩
  rw [gN_cb h 0 (by omega), gN_cb h 1 (by omega), gN_cb h 2 (by omega), gN_cb h 3 (by omega), gN_cb h 4 (by omega), gN_cb h 5 (by omega), gN_cb h 6 (by omega)]
  rfl
end Go.Proofs.Ytbmbgfmhejahjaa
