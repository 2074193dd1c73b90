/-
  THE DOCUMENT'S OWN WHOLE NUMBERS: of a sign and digits; how far a number is from 0; a quotient. Condition: digits; of 64 bits with a sign.
-/
import Derived.Test.YtebdlmjpgohngaaDigMul
namespace Go.Proofs.Ytebdlmjpgohngaa
open Go.RowKit

theorem val_pos : ∀ {l : List Int} {t : Nat}, Dig l → t < l.length → 0 < l.getD t 0 → 0 < val l
  | [], _, _, h, _ => by simp at h
  | d :: l, 0, h, _, h0 => by have := val_nonneg h.tail; have h0 : 0 < d := h0; simp only [val]; omega
  | d :: l, t + 1, h, h1, h0 => by
    have := val_pos h.tail (t := t) (by simpa using h1) (by simpa using h0)
    have := h.head
    simp only [val]; omega
theorem val_none : ∀ {l : List Int}, (∀ t, t < l.length → l.getD t 0 = 0) → val l = 0
  | [], _ => rfl
  | d :: l, h => by
    have h0 : d = 0 := h 0 (by simp)
    have := val_none (l := l) fun t ht => by simpa using h (t + 1) (by simpa using ht)
    simp only [val]; omega
theorem val_split : ∀ {l : List Int}, 4 ≤ l.length → val l = num4 l 0 + 18446744073709551616 * val (l.drop 4)
  | [], h | [_], h | [_, _], h | [_, _, _], h => by simp at h
  | a :: b :: c :: d :: l, _ => by simp [val, num4]; omega
theorem Dig.drop {l : List Int} (h : Dig l) (k : Nat) : Dig (l.drop k) := fun j hj => by
  simp at hj
  have := h (k + j) (by omega)
  simpa [List.getD_eq_getElem?_getD] using this
/-- Whose digits above the fourth are not all 0 is beyond 64 bits. -/
theorem val_beyond {l : List Int} {t : Nat} (hd : Dig l) (ht : 4 ≤ t) (h1 : t < l.length) (h0 : 0 < l.getD t 0) : 18446744073709551616 ≤ val l := by
  have h2 := val_split (l := l) (by omega)
  have h3 := val_pos (hd.drop 4) (t := t - 4) (by simp; omega) (by
    have : 4 + (t - 4) = t := by omega
    simpa [List.getD_eq_getElem?_getD, this] using h0)
  have h4 := num4_word (j := 0) hd (by omega)
  unfold Word at h4
  omega
theorem val_within {l : List Int} (hn : 4 ≤ l.length) (h : ∀ t, 4 ≤ t → t < l.length → l.getD t 0 = 0) : val l = num4 l 0 := by
  rw [val_split hn, val_none fun t ht => by
    simp at ht
    have := h (4 + t) (by omega) (by omega)
    simpa [List.getD_eq_getElem?_getD] using this]
  omega

theorem refSize_any (n : Int) (h : Whole n) (w : World) : Calls Try.prog 55 #[.int .i64 n] w fun e w' => e = .returned (.int .u64 (absI n)) ∧ w = w' := by
  obtain ⟨h1, h2⟩ := h
  by_cases hn : n < 0
  · have HE : Hid (absI n = -n) := if_pos hn
    have u1 : wrap64 (n + 1) = n + 1 := by unfold wrap64; omega
    have u2 : wrap64 (-(n + 1)) = -(n + 1) := by unfold wrap64; omega
    have u3 : IntKind.u64.wrap (-(n + 1)) = -(n + 1) := by rw [IntKind.wrap_u64]; omega
    have u4 : IntKind.u64.wrap (-(n + 1) + 1) = -n := by rw [IntKind.wrap_u64]; omega
    rw [HE.out]
    go_enter Try.func55, Try.ntmps55
    go_wp2
    go_ret
    exact ⟨rfl, rfl⟩
  · have HE : Hid (absI n = n) := if_neg hn
    rw [HE.out]
    go_enter Try.func55, Try.ntmps55
    go_wp2
    go_ret
    exact ⟨rfl, rfl⟩

theorem floor_neg (a b : Int) (hb : 1 ≤ b) : a / b = -((-(a + 1)) / b) - 1 := by
  have h3 := Int.mul_ediv_add_emod (-(a + 1)) b
  have h4 := Int.emod_lt_of_pos (-(a + 1)) (by omega : 0 < b)
  have h5 := Int.emod_nonneg (-(a + 1)) (by omega : b ≠ 0)
  have : a / b = -((-(a + 1)) / b) - 1 ∧ a % b = b - 1 - (-(a + 1)) % b := by
    rw [Int.ediv_emod_unique (by omega)]
    refine ⟨?_, by omega, by omega⟩
    rw [Int.mul_sub, Int.mul_neg]
    omega
  exact this.1

end Go.Proofs.Ytebdlmjpgohngaa
