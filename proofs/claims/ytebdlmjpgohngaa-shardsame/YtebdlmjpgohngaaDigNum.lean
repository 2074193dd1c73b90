/-
  DIGITS OF 65536, the lowest first: the number that they are, what one more digit and another digit make of it, how two such rows stand to one another. No program in this text.
-/
import Derived.Test.YtebdlmjpgohngaaVars
namespace Go.Proofs.Ytebdlmjpgohngaa

/-- The number of some digits. -/
def val : List Int → Int
  | [] => 0
  | d :: l => d + 65536 * val l
/-- Each is a digit. -/
def Dig (l : List Int) : Prop := ∀ j, j < l.length → 0 ≤ l.getD j 0 ∧ l.getD j 0 < 65536

theorem Dig.tail {d : Int} {l : List Int} (h : Dig (d :: l)) : Dig l := fun j hj => by
  have := h (j + 1) (by simp; omega)
  simpa using this
theorem Dig.head {d : Int} {l : List Int} (h : Dig (d :: l)) : 0 ≤ d ∧ d < 65536 := h 0 (by simp)
theorem Dig.cons {d : Int} {l : List Int} (h0 : 0 ≤ d) (h1 : d < 65536) (h : Dig l) : Dig (d :: l) := fun j hj => by
  match j with
  | 0 => exact ⟨h0, h1⟩
  | j + 1 => exact h j (by simpa using hj)
theorem Dig.nil : Dig [] := fun j hj => by simp at hj
theorem Dig.append {l k : List Int} (h : Dig l) (h2 : Dig k) : Dig (l ++ k) := fun j hj => by
  by_cases hl : j < l.length
  · have := h j hl
    simpa [List.getD_eq_getElem?_getD, List.getElem?_append_left hl] using this
  · have := h2 (j - l.length) (by simp at hj; omega)
    simpa [List.getD_eq_getElem?_getD, List.getElem?_append_right (by omega : l.length ≤ j)] using this
theorem Dig.set {l : List Int} (h : Dig l) (i : Nat) {x : Int} (h0 : 0 ≤ x) (h1 : x < 65536) : Dig (l.set i x) := fun j hj => by
  simp at hj
  by_cases e : i = j
  · subst e
    simp [List.getD_eq_getElem?_getD, hj, h0, h1]
  · have := h j hj
    simpa [List.getD_eq_getElem?_getD, List.getElem?_set_ne e] using this

theorem val_nonneg : ∀ {l : List Int}, Dig l → 0 ≤ val l
  | [], _ => by simp [val]
  | d :: l, h => by have := val_nonneg h.tail; have := h.head; simp only [val]; omega

theorem val_append (l k : List Int) : val (l ++ k) = val l + 65536 ^ l.length * val k := by
  induction l with
  | nil => simp [val]
  | cons d l ih => simp only [List.cons_append, val, ih, List.length_cons, Int.pow_succ]; grind

theorem val_set (l : List Int) (j : Nat) (x : Int) (hj : j < l.length) : val (l.set j x) = val l + (x - l.getD j 0) * 65536 ^ j := by
  induction l generalizing j with
  | nil => simp at hj
  | cons d l ih =>
    match j with
    | 0 => simp [val]; omega
    | j + 1 =>
      have := ih j (by simpa using hj)
      simp only [List.set_cons_succ, val, this, List.getD_cons_succ, Int.pow_succ]; grind

theorem val_take (l : List Int) (j : Nat) (hj : j < l.length) : val (l.take (j + 1)) = val (l.take j) + l.getD j 0 * 65536 ^ j := by
  induction l generalizing j with
  | nil => simp at hj
  | cons d l ih =>
    match j with
    | 0 => simp [val]
    | j + 1 =>
      have := ih j (by simpa using hj)
      simp only [List.take_succ_cons, val, this, List.getD_cons_succ, Int.pow_succ]; grind

theorem val_zeros (n : Nat) : val (List.replicate n 0) = 0 := by
  induction n with
  | zero => rfl
  | succ n ih => simp [List.replicate_succ, val, ih]
theorem dig_zeros (n : Nat) : Dig (List.replicate n 0) := fun j hj => by
  simp at hj
  simp [List.getD_eq_getElem?_getD, hj]

/-- A row whose digits above a place are another's, and whose digit there is less, is less. -/
theorem val_lt : ∀ (l k : List Int) (i : Nat), Dig l → Dig k → l.length = k.length → i < l.length → (∀ t, i < t → t < l.length → l.getD t 0 = k.getD t 0) → l.getD i 0 < k.getD i 0 → val l < val k
  | [], _, _, _, _, _, hi, _, _ => by simp at hi
  | _ :: _, [], _, _, _, hn, _, _, _ => by simp at hn
  | d :: l, e :: k, i, h1, h2, hn, hi, ht, hlt => by
    have hn' : l.length = k.length := by simpa using hn
    match i with
    | 0 =>
      have : l = k := List.ext_getElem hn' fun t a b => by
        have := ht (t + 1) (by omega) (by simp; omega)
        simpa [List.getD_eq_getElem?_getD, a, b] using this
      subst this
      simp at hlt
      simp only [val]; omega
    | i + 1 =>
      have := val_lt l k i h1.tail h2.tail hn' (by simpa using hi) (fun t a b => by
        have := ht (t + 1) (by omega) (by simp; omega)
        simpa using this) (by simpa using hlt)
      have a := h1.head
      have b := h2.head
      simp only [val]; omega

theorem val_eq (l k : List Int) (hn : l.length = k.length) (ht : ∀ t, t < l.length → l.getD t 0 = k.getD t 0) : val l = val k := by
  have : l = k := List.ext_getElem hn fun t a b => by
    have := ht t a
    simpa [List.getD_eq_getElem?_getD, a, b] using this
  rw [this]

/-- The number of four digits. -/
def num4 (l : List Int) (j : Nat) : Int := l.getD j 0 + l.getD (j + 1) 0 * 65536 + l.getD (j + 2) 0 * 4294967296 + l.getD (j + 3) 0 * 281474976710656
theorem num4_word {l : List Int} {j : Nat} (h : Dig l) (hj : j + 3 < l.length) : Word (num4 l j) := by
  have a := h j (by omega); have b := h (j + 1) (by omega); have c := h (j + 2) (by omega); have d := h (j + 3) hj
  unfold num4 Word; omega
theorem val_eight {l : List Int} (hn : l.length = 8) : val l = num4 l 4 * 18446744073709551616 + num4 l 0 := by
  match l, hn with
  | [a, b, c, d, e, f, g, h], _ => simp [val, num4]; omega
theorem val_nine {l : List Int} (hn : l.length = 9) : val l = l.getD 8 0 * 340282366920938463463374607431768211456 + num4 l 4 * 18446744073709551616 + num4 l 0 := by
  match l, hn with
  | [a, b, c, d, e, f, g, h, i], _ => simp [val, num4]; omega
theorem val_twelve {l : List Int} (hn : l.length = 12) : val l = num4 l 8 * 340282366920938463463374607431768211456 + num4 l 4 * 18446744073709551616 + num4 l 0 := by
  match l, hn with
  | [a, b, c, d, e, f, g, h, i, j, k, m], _ => simp [val, num4]; omega

/-- The four digits of a number. -/
def digs (n : Int) : List Int := [n % 65536, n / 65536 % 65536, n / 4294967296 % 65536, n / 281474976710656]
theorem digs_dig {n : Int} (h : Word n) : Dig (digs n) := by
  obtain ⟨h0, h1⟩ := h
  exact .cons (by omega) (by omega) (.cons (by omega) (by omega) (.cons (by omega) (by omega) (.cons (by omega) (by omega) .nil)))
theorem digs_val (n : Int) : val (digs n) = n := by simp only [digs, val]; omega
theorem wide_val (h l : Int) : val (digs l ++ digs h) = h * 18446744073709551616 + l := by
  rw [val_append, digs_val, digs_val]; simp [digs]; omega

/-- A step of the product: what comes to a place, with what is carried. -/
theorem step_num {o x y c : Int} (ho : 0 ≤ o ∧ o < 65536) (hx : 0 ≤ x ∧ x < 65536) (hy : 0 ≤ y ∧ y < 65536) (hc : 0 ≤ c ∧ c < 65536) :
    0 ≤ x * y ∧ x * y < 4294967296 ∧ 0 ≤ o + x * y + c ∧ o + x * y + c < 4294967296 ∧ 0 ≤ (o + x * y + c) / 65536 ∧ (o + x * y + c) / 65536 < 65536 := by
  have h0 : 0 ≤ x * y := Int.mul_nonneg hx.1 hy.1
  have h1 : x * y ≤ 65535 * 65535 := Int.mul_le_mul (by omega) (by omega) hy.1 (by decide)
  omega
end Go.Proofs.Ytebdlmjpgohngaa
