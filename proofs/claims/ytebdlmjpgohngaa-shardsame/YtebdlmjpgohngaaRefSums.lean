/-
  THE DOCUMENT'S OWN SUM, DIFFERENCE AND PRODUCT of whole numbers. Condition: of 64 bits with a sign.
-/
import Derived.Test.YtebdlmjpgohngaaRefWhole
namespace Go.Proofs.Ytebdlmjpgohngaa
open Go.RowKit

set_option maxHeartbeats 1000000 in
theorem refPlus_sum_true (a b : Int) (ha : Whole a) (hb : Whole b) (h1 : decide (a < 0) = true) (h2 : decide (b < 0) = true) (w : World) :
    Calls Try.prog 41 #[.int .i64 a, .int .i64 b] w fun e w' => e = .returned (.tuple #[.int .i64 (fitV (a + b)), .int .i64 (fitE (a + b))]) ∧ Below w.heap.size w w' := by
  have hX := absI_word ha
  have hY := absI_word hb
  have HS : Hid (signI true (absI a + absI b) = a + b) := by
    have ea : absI a = -a := if_pos (by simpa using h1)
    have eb : absI b = -b := if_pos (by simpa using h2)
    show -(absI a + absI b) = a + b
    rw [ea, eb] <;> omega
  go_enter Try.func41, Try.ntmps41
  go_wp2_with (go_at_call 55; refine (refSize_any _ (by assumption) _).mono ?_; rintro e w' ⟨rfl, rfl⟩)
  refine (digits_at _ hX _).mono ?_
  rintro e w1 ⟨rfl, rfl⟩
  have d1 := Nums.made w (digs (absI a))
  have c1 := alloc_below w (.cells ((digs (absI a)).map (Value.int .u64)).toArray 99)
  generalize w.alloc (.cells ((digs (absI a)).map (Value.int .u64)).toArray 99) = w1 at *
  go_wp2_with fail
  refine (digits_at _ hY _).mono ?_
  rintro e w2 ⟨rfl, rfl⟩
  have d2 := Nums.made w1 (digs (absI b))
  have c2 := alloc_below w1 (.cells ((digs (absI b)).map (Value.int .u64)).toArray 99)
  have d12 := d1.below c2
  have b2 := onto c1 c2
  clear d1 c1 c2
  generalize w1.alloc (.cells ((digs (absI b)).map (Value.int .u64)).toArray 99) = w2 at *
  go_wp2_with fail
  refine (sum_any w.heap.size w1.heap.size 4 4 4 (digs (absI a)) (digs (absI b)) rfl rfl (by decide) (digs_dig hX) (digs_dig hY) _ d12 d2).mono ?_
  rintro e w3 ⟨⟨g, cap, L, rfl, hcap, hg, hlen, hdig, hval, hN⟩, c3⟩
  have b3 := onto b2 c3
  rw [digs_val, digs_val] at hval
  clear b2 d12 d2 c3
  go_wp2_with fail
  refine (whole_any true g 5 cap L hlen (by decide) (by decide) hcap hdig _ hN).mono ?_
  rintro e w4 ⟨rfl, c4⟩
  have b4 := onto b3 c4
  rw [hval, HS.out]
  clear b3 c4 hN
  go_wp2_with fail
  go_ret2
  exact ⟨rfl, b4⟩

set_option maxHeartbeats 1000000 in
theorem refPlus_sum_false (a b : Int) (ha : Whole a) (hb : Whole b) (h1 : decide (a < 0) = false) (h2 : decide (b < 0) = false) (w : World) :
    Calls Try.prog 41 #[.int .i64 a, .int .i64 b] w fun e w' => e = .returned (.tuple #[.int .i64 (fitV (a + b)), .int .i64 (fitE (a + b))]) ∧ Below w.heap.size w w' := by
  have hX := absI_word ha
  have hY := absI_word hb
  have HS : Hid (signI false (absI a + absI b) = a + b) := by
    have ea : absI a = a := if_neg (by simpa using h1)
    have eb : absI b = b := if_neg (by simpa using h2)
    show (absI a + absI b) = a + b
    rw [ea, eb] <;> omega
  go_enter Try.func41, Try.ntmps41
  go_wp2_with (go_at_call 55; refine (refSize_any _ (by assumption) _).mono ?_; rintro e w' ⟨rfl, rfl⟩)
  refine (digits_at _ hX _).mono ?_
  rintro e w1 ⟨rfl, rfl⟩
  have d1 := Nums.made w (digs (absI a))
  have c1 := alloc_below w (.cells ((digs (absI a)).map (Value.int .u64)).toArray 99)
  generalize w.alloc (.cells ((digs (absI a)).map (Value.int .u64)).toArray 99) = w1 at *
  go_wp2_with fail
  refine (digits_at _ hY _).mono ?_
  rintro e w2 ⟨rfl, rfl⟩
  have d2 := Nums.made w1 (digs (absI b))
  have c2 := alloc_below w1 (.cells ((digs (absI b)).map (Value.int .u64)).toArray 99)
  have d12 := d1.below c2
  have b2 := onto c1 c2
  clear d1 c1 c2
  generalize w1.alloc (.cells ((digs (absI b)).map (Value.int .u64)).toArray 99) = w2 at *
  go_wp2_with fail
  refine (sum_any w.heap.size w1.heap.size 4 4 4 (digs (absI a)) (digs (absI b)) rfl rfl (by decide) (digs_dig hX) (digs_dig hY) _ d12 d2).mono ?_
  rintro e w3 ⟨⟨g, cap, L, rfl, hcap, hg, hlen, hdig, hval, hN⟩, c3⟩
  have b3 := onto b2 c3
  rw [digs_val, digs_val] at hval
  clear b2 d12 d2 c3
  go_wp2_with fail
  refine (whole_any false g 5 cap L hlen (by decide) (by decide) hcap hdig _ hN).mono ?_
  rintro e w4 ⟨rfl, c4⟩
  have b4 := onto b3 c4
  rw [hval, HS.out]
  clear b3 c4 hN
  go_wp2_with fail
  go_ret2
  exact ⟨rfl, b4⟩

set_option maxHeartbeats 1000000 in
theorem refPlus_true_false_ge (a b : Int) (ha : Whole a) (hb : Whole b) (h1 : decide (a < 0) = true) (h2 : decide (b < 0) = false) (h3 : decide (absI b ≤ absI a) = true) (w : World) :
    Calls Try.prog 41 #[.int .i64 a, .int .i64 b] w fun e w' => e = .returned (.tuple #[.int .i64 (fitV (a + b)), .int .i64 (fitE (a + b))]) ∧ Below w.heap.size w w' := by
  have hX := absI_word ha
  have hY := absI_word hb
  have HS : Hid (signI true (absI a - absI b) = a + b) := by
    have ea : absI a = -a := if_pos (by simpa using h1)
    have eb : absI b = b := if_neg (by simpa using h2)
    show -(absI a - absI b) = a + b
    rw [ea, eb] <;> omega
  have hD : Word (absI a - absI b) := by
    simp at h3
    unfold Word at hX hY ⊢
    omega
  have u1 : IntKind.u64.wrap (absI a - absI b) = absI a - absI b := by have := hD; unfold Word at this; rw [IntKind.wrap_u64]; omega
  go_enter Try.func41, Try.ntmps41
  go_wp2_with (go_at_call 55; refine (refSize_any _ (by assumption) _).mono ?_; rintro e w' ⟨rfl, rfl⟩)
  refine (digits_at _ hD _).mono ?_
  rintro e w1 ⟨rfl, rfl⟩
  have d1 := Nums.made w (digs (absI a - absI b))
  have c1 := alloc_below w (.cells ((digs (absI a - absI b)).map (Value.int .u64)).toArray 99)
  generalize w.alloc (.cells ((digs (absI a - absI b)).map (Value.int .u64)).toArray 99) = w1 at *
  go_wp2_with fail
  refine (whole_any true w.heap.size 4 4 (digs (absI a - absI b)) rfl (by decide) (by decide) (by decide) (digs_dig hD) _ d1).mono ?_
  rintro e w4 ⟨rfl, c4⟩
  have b4 := onto c1 c4
  rw [digs_val, HS.out]
  clear c1 c4 d1
  go_wp2_with fail
  go_ret2
  exact ⟨rfl, b4⟩

set_option maxHeartbeats 1000000 in
theorem refPlus_true_false_lt (a b : Int) (ha : Whole a) (hb : Whole b) (h1 : decide (a < 0) = true) (h2 : decide (b < 0) = false) (h3 : decide (absI b ≤ absI a) = false) (w : World) :
    Calls Try.prog 41 #[.int .i64 a, .int .i64 b] w fun e w' => e = .returned (.tuple #[.int .i64 (fitV (a + b)), .int .i64 (fitE (a + b))]) ∧ Below w.heap.size w w' := by
  have hX := absI_word ha
  have hY := absI_word hb
  have HS : Hid (signI false (absI b - absI a) = a + b) := by
    have ea : absI a = -a := if_pos (by simpa using h1)
    have eb : absI b = b := if_neg (by simpa using h2)
    show (absI b - absI a) = a + b
    rw [ea, eb] <;> omega
  have hD : Word (absI b - absI a) := by
    simp at h3
    unfold Word at hX hY ⊢
    omega
  have u1 : IntKind.u64.wrap (absI b - absI a) = absI b - absI a := by have := hD; unfold Word at this; rw [IntKind.wrap_u64]; omega
  go_enter Try.func41, Try.ntmps41
  go_wp2_with (go_at_call 55; refine (refSize_any _ (by assumption) _).mono ?_; rintro e w' ⟨rfl, rfl⟩)
  refine (digits_at _ hD _).mono ?_
  rintro e w1 ⟨rfl, rfl⟩
  have d1 := Nums.made w (digs (absI b - absI a))
  have c1 := alloc_below w (.cells ((digs (absI b - absI a)).map (Value.int .u64)).toArray 99)
  generalize w.alloc (.cells ((digs (absI b - absI a)).map (Value.int .u64)).toArray 99) = w1 at *
  go_wp2_with fail
  refine (whole_any false w.heap.size 4 4 (digs (absI b - absI a)) rfl (by decide) (by decide) (by decide) (digs_dig hD) _ d1).mono ?_
  rintro e w4 ⟨rfl, c4⟩
  have b4 := onto c1 c4
  rw [digs_val, HS.out]
  clear c1 c4 d1
  go_wp2_with fail
  go_ret2
  exact ⟨rfl, b4⟩

set_option maxHeartbeats 1000000 in
theorem refPlus_false_true_ge (a b : Int) (ha : Whole a) (hb : Whole b) (h1 : decide (a < 0) = false) (h2 : decide (b < 0) = true) (h3 : decide (absI b ≤ absI a) = true) (w : World) :
    Calls Try.prog 41 #[.int .i64 a, .int .i64 b] w fun e w' => e = .returned (.tuple #[.int .i64 (fitV (a + b)), .int .i64 (fitE (a + b))]) ∧ Below w.heap.size w w' := by
  have hX := absI_word ha
  have hY := absI_word hb
  have HS : Hid (signI false (absI a - absI b) = a + b) := by
    have ea : absI a = a := if_neg (by simpa using h1)
    have eb : absI b = -b := if_pos (by simpa using h2)
    show (absI a - absI b) = a + b
    rw [ea, eb] <;> omega
  have hD : Word (absI a - absI b) := by
    simp at h3
    unfold Word at hX hY ⊢
    omega
  have u1 : IntKind.u64.wrap (absI a - absI b) = absI a - absI b := by have := hD; unfold Word at this; rw [IntKind.wrap_u64]; omega
  go_enter Try.func41, Try.ntmps41
  go_wp2_with (go_at_call 55; refine (refSize_any _ (by assumption) _).mono ?_; rintro e w' ⟨rfl, rfl⟩)
  refine (digits_at _ hD _).mono ?_
  rintro e w1 ⟨rfl, rfl⟩
  have d1 := Nums.made w (digs (absI a - absI b))
  have c1 := alloc_below w (.cells ((digs (absI a - absI b)).map (Value.int .u64)).toArray 99)
  generalize w.alloc (.cells ((digs (absI a - absI b)).map (Value.int .u64)).toArray 99) = w1 at *
  go_wp2_with fail
  refine (whole_any false w.heap.size 4 4 (digs (absI a - absI b)) rfl (by decide) (by decide) (by decide) (digs_dig hD) _ d1).mono ?_
  rintro e w4 ⟨rfl, c4⟩
  have b4 := onto c1 c4
  rw [digs_val, HS.out]
  clear c1 c4 d1
  go_wp2_with fail
  go_ret2
  exact ⟨rfl, b4⟩

set_option maxHeartbeats 1000000 in
theorem refPlus_false_true_lt (a b : Int) (ha : Whole a) (hb : Whole b) (h1 : decide (a < 0) = false) (h2 : decide (b < 0) = true) (h3 : decide (absI b ≤ absI a) = false) (w : World) :
    Calls Try.prog 41 #[.int .i64 a, .int .i64 b] w fun e w' => e = .returned (.tuple #[.int .i64 (fitV (a + b)), .int .i64 (fitE (a + b))]) ∧ Below w.heap.size w w' := by
  have hX := absI_word ha
  have hY := absI_word hb
  have HS : Hid (signI true (absI b - absI a) = a + b) := by
    have ea : absI a = a := if_neg (by simpa using h1)
    have eb : absI b = -b := if_pos (by simpa using h2)
    show -(absI b - absI a) = a + b
    rw [ea, eb] <;> omega
  have hD : Word (absI b - absI a) := by
    simp at h3
    unfold Word at hX hY ⊢
    omega
  have u1 : IntKind.u64.wrap (absI b - absI a) = absI b - absI a := by have := hD; unfold Word at this; rw [IntKind.wrap_u64]; omega
  go_enter Try.func41, Try.ntmps41
  go_wp2_with (go_at_call 55; refine (refSize_any _ (by assumption) _).mono ?_; rintro e w' ⟨rfl, rfl⟩)
  refine (digits_at _ hD _).mono ?_
  rintro e w1 ⟨rfl, rfl⟩
  have d1 := Nums.made w (digs (absI b - absI a))
  have c1 := alloc_below w (.cells ((digs (absI b - absI a)).map (Value.int .u64)).toArray 99)
  generalize w.alloc (.cells ((digs (absI b - absI a)).map (Value.int .u64)).toArray 99) = w1 at *
  go_wp2_with fail
  refine (whole_any true w.heap.size 4 4 (digs (absI b - absI a)) rfl (by decide) (by decide) (by decide) (digs_dig hD) _ d1).mono ?_
  rintro e w4 ⟨rfl, c4⟩
  have b4 := onto c1 c4
  rw [digs_val, HS.out]
  clear c1 c4 d1
  go_wp2_with fail
  go_ret2
  exact ⟨rfl, b4⟩

theorem refPlus_any (a b : Int) (ha : Whole a) (hb : Whole b) (w : World) :
    Calls Try.prog 41 #[.int .i64 a, .int .i64 b] w fun e w' => e = .returned (.tuple #[.int .i64 (fitV (a + b)), .int .i64 (fitE (a + b))]) ∧ Below w.heap.size w w' := by
  cases h1 : decide (a < 0) <;> cases h2 : decide (b < 0)
  · exact refPlus_sum_false a b ha hb h1 h2 w
  · cases h3 : decide (absI b ≤ absI a)
    · exact refPlus_false_true_lt a b ha hb h1 h2 h3 w
    · exact refPlus_false_true_ge a b ha hb h1 h2 h3 w
  · cases h3 : decide (absI b ≤ absI a)
    · exact refPlus_true_false_lt a b ha hb h1 h2 h3 w
    · exact refPlus_true_false_ge a b ha hb h1 h2 h3 w
  · exact refPlus_sum_true a b ha hb h1 h2 w

set_option maxHeartbeats 1000000 in
theorem refTimes64_false_false (a b : Int) (ha : Whole a) (hb : Whole b) (h1 : decide (a < 0) = false) (h2 : decide (b < 0) = false) (w : World) :
    Calls Try.prog 42 #[.int .i64 a, .int .i64 b] w fun e w' => e = .returned (.tuple #[.int .i64 (fitV (a * b)), .int .i64 (fitE (a * b))]) ∧ Below w.heap.size w w' := by
  have hX := absI_word ha
  have hY := absI_word hb
  have HS : Hid (signI false (absI a * absI b) = a * b) := by
    have := sign_mul a b
    rw [h1, h2] at this
    exact this.symm
  go_enter Try.func42, Try.ntmps42
  go_wp2_with (go_at_call 55; refine (refSize_any _ (by assumption) _).mono ?_; rintro e w' ⟨rfl, rfl⟩)
  refine (digits_at _ hX _).mono ?_
  rintro e w1 ⟨rfl, rfl⟩
  have d1 := Nums.made w (digs (absI a))
  have c1 := alloc_below w (.cells ((digs (absI a)).map (Value.int .u64)).toArray 99)
  generalize w.alloc (.cells ((digs (absI a)).map (Value.int .u64)).toArray 99) = w1 at *
  go_wp2_with (go_at_call 55; refine (refSize_any _ (by assumption) _).mono ?_; rintro e w' ⟨rfl, rfl⟩)
  refine (digits_at _ hY _).mono ?_
  rintro e w2 ⟨rfl, rfl⟩
  have d2 := Nums.made w1 (digs (absI b))
  have c2 := alloc_below w1 (.cells ((digs (absI b)).map (Value.int .u64)).toArray 99)
  have d12 := d1.below c2
  have b2 := onto c1 c2
  clear d1 c1 c2
  generalize w1.alloc (.cells ((digs (absI b)).map (Value.int .u64)).toArray 99) = w2 at *
  go_wp2_with fail
  refine (prodRows_any w.heap.size w1.heap.size 4 4 4 4 (digs (absI a)) (digs (absI b)) rfl rfl (by decide) (by decide) (digs_dig hX) (digs_dig hY) _ d12 d2).mono ?_
  rintro e w3 ⟨⟨g, cap, L, rfl, hcap, hg, hlen, hdig, hval, hN⟩, c3⟩
  have b3 := onto b2 c3
  rw [digs_val, digs_val] at hval
  clear b2 d12 d2 c3
  go_wp2_with fail
  refine (whole_any false g 8 cap L hlen (by decide) (by decide) hcap hdig _ hN).mono ?_
  rintro e w4 ⟨rfl, c4⟩
  have b4 := onto b3 c4
  rw [hval, HS.out]
  clear b3 c4 hN
  go_wp2_with fail
  go_ret2
  exact ⟨rfl, b4⟩

set_option maxHeartbeats 1000000 in
theorem refTimes64_false_true (a b : Int) (ha : Whole a) (hb : Whole b) (h1 : decide (a < 0) = false) (h2 : decide (b < 0) = true) (w : World) :
    Calls Try.prog 42 #[.int .i64 a, .int .i64 b] w fun e w' => e = .returned (.tuple #[.int .i64 (fitV (a * b)), .int .i64 (fitE (a * b))]) ∧ Below w.heap.size w w' := by
  have hX := absI_word ha
  have hY := absI_word hb
  have HS : Hid (signI true (absI a * absI b) = a * b) := by
    have := sign_mul a b
    rw [h1, h2] at this
    exact this.symm
  go_enter Try.func42, Try.ntmps42
  go_wp2_with (go_at_call 55; refine (refSize_any _ (by assumption) _).mono ?_; rintro e w' ⟨rfl, rfl⟩)
  refine (digits_at _ hX _).mono ?_
  rintro e w1 ⟨rfl, rfl⟩
  have d1 := Nums.made w (digs (absI a))
  have c1 := alloc_below w (.cells ((digs (absI a)).map (Value.int .u64)).toArray 99)
  generalize w.alloc (.cells ((digs (absI a)).map (Value.int .u64)).toArray 99) = w1 at *
  go_wp2_with (go_at_call 55; refine (refSize_any _ (by assumption) _).mono ?_; rintro e w' ⟨rfl, rfl⟩)
  refine (digits_at _ hY _).mono ?_
  rintro e w2 ⟨rfl, rfl⟩
  have d2 := Nums.made w1 (digs (absI b))
  have c2 := alloc_below w1 (.cells ((digs (absI b)).map (Value.int .u64)).toArray 99)
  have d12 := d1.below c2
  have b2 := onto c1 c2
  clear d1 c1 c2
  generalize w1.alloc (.cells ((digs (absI b)).map (Value.int .u64)).toArray 99) = w2 at *
  go_wp2_with fail
  refine (prodRows_any w.heap.size w1.heap.size 4 4 4 4 (digs (absI a)) (digs (absI b)) rfl rfl (by decide) (by decide) (digs_dig hX) (digs_dig hY) _ d12 d2).mono ?_
  rintro e w3 ⟨⟨g, cap, L, rfl, hcap, hg, hlen, hdig, hval, hN⟩, c3⟩
  have b3 := onto b2 c3
  rw [digs_val, digs_val] at hval
  clear b2 d12 d2 c3
  go_wp2_with fail
  refine (whole_any true g 8 cap L hlen (by decide) (by decide) hcap hdig _ hN).mono ?_
  rintro e w4 ⟨rfl, c4⟩
  have b4 := onto b3 c4
  rw [hval, HS.out]
  clear b3 c4 hN
  go_wp2_with fail
  go_ret2
  exact ⟨rfl, b4⟩

set_option maxHeartbeats 1000000 in
theorem refTimes64_true_false (a b : Int) (ha : Whole a) (hb : Whole b) (h1 : decide (a < 0) = true) (h2 : decide (b < 0) = false) (w : World) :
    Calls Try.prog 42 #[.int .i64 a, .int .i64 b] w fun e w' => e = .returned (.tuple #[.int .i64 (fitV (a * b)), .int .i64 (fitE (a * b))]) ∧ Below w.heap.size w w' := by
  have hX := absI_word ha
  have hY := absI_word hb
  have HS : Hid (signI true (absI a * absI b) = a * b) := by
    have := sign_mul a b
    rw [h1, h2] at this
    exact this.symm
  go_enter Try.func42, Try.ntmps42
  go_wp2_with (go_at_call 55; refine (refSize_any _ (by assumption) _).mono ?_; rintro e w' ⟨rfl, rfl⟩)
  refine (digits_at _ hX _).mono ?_
  rintro e w1 ⟨rfl, rfl⟩
  have d1 := Nums.made w (digs (absI a))
  have c1 := alloc_below w (.cells ((digs (absI a)).map (Value.int .u64)).toArray 99)
  generalize w.alloc (.cells ((digs (absI a)).map (Value.int .u64)).toArray 99) = w1 at *
  go_wp2_with (go_at_call 55; refine (refSize_any _ (by assumption) _).mono ?_; rintro e w' ⟨rfl, rfl⟩)
  refine (digits_at _ hY _).mono ?_
  rintro e w2 ⟨rfl, rfl⟩
  have d2 := Nums.made w1 (digs (absI b))
  have c2 := alloc_below w1 (.cells ((digs (absI b)).map (Value.int .u64)).toArray 99)
  have d12 := d1.below c2
  have b2 := onto c1 c2
  clear d1 c1 c2
  generalize w1.alloc (.cells ((digs (absI b)).map (Value.int .u64)).toArray 99) = w2 at *
  go_wp2_with fail
  refine (prodRows_any w.heap.size w1.heap.size 4 4 4 4 (digs (absI a)) (digs (absI b)) rfl rfl (by decide) (by decide) (digs_dig hX) (digs_dig hY) _ d12 d2).mono ?_
  rintro e w3 ⟨⟨g, cap, L, rfl, hcap, hg, hlen, hdig, hval, hN⟩, c3⟩
  have b3 := onto b2 c3
  rw [digs_val, digs_val] at hval
  clear b2 d12 d2 c3
  go_wp2_with fail
  refine (whole_any true g 8 cap L hlen (by decide) (by decide) hcap hdig _ hN).mono ?_
  rintro e w4 ⟨rfl, c4⟩
  have b4 := onto b3 c4
  rw [hval, HS.out]
  clear b3 c4 hN
  go_wp2_with fail
  go_ret2
  exact ⟨rfl, b4⟩

set_option maxHeartbeats 1000000 in
theorem refTimes64_true_true (a b : Int) (ha : Whole a) (hb : Whole b) (h1 : decide (a < 0) = true) (h2 : decide (b < 0) = true) (w : World) :
    Calls Try.prog 42 #[.int .i64 a, .int .i64 b] w fun e w' => e = .returned (.tuple #[.int .i64 (fitV (a * b)), .int .i64 (fitE (a * b))]) ∧ Below w.heap.size w w' := by
  have hX := absI_word ha
  have hY := absI_word hb
  have HS : Hid (signI false (absI a * absI b) = a * b) := by
    have := sign_mul a b
    rw [h1, h2] at this
    exact this.symm
  go_enter Try.func42, Try.ntmps42
  go_wp2_with (go_at_call 55; refine (refSize_any _ (by assumption) _).mono ?_; rintro e w' ⟨rfl, rfl⟩)
  refine (digits_at _ hX _).mono ?_
  rintro e w1 ⟨rfl, rfl⟩
  have d1 := Nums.made w (digs (absI a))
  have c1 := alloc_below w (.cells ((digs (absI a)).map (Value.int .u64)).toArray 99)
  generalize w.alloc (.cells ((digs (absI a)).map (Value.int .u64)).toArray 99) = w1 at *
  go_wp2_with (go_at_call 55; refine (refSize_any _ (by assumption) _).mono ?_; rintro e w' ⟨rfl, rfl⟩)
  refine (digits_at _ hY _).mono ?_
  rintro e w2 ⟨rfl, rfl⟩
  have d2 := Nums.made w1 (digs (absI b))
  have c2 := alloc_below w1 (.cells ((digs (absI b)).map (Value.int .u64)).toArray 99)
  have d12 := d1.below c2
  have b2 := onto c1 c2
  clear d1 c1 c2
  generalize w1.alloc (.cells ((digs (absI b)).map (Value.int .u64)).toArray 99) = w2 at *
  go_wp2_with fail
  refine (prodRows_any w.heap.size w1.heap.size 4 4 4 4 (digs (absI a)) (digs (absI b)) rfl rfl (by decide) (by decide) (digs_dig hX) (digs_dig hY) _ d12 d2).mono ?_
  rintro e w3 ⟨⟨g, cap, L, rfl, hcap, hg, hlen, hdig, hval, hN⟩, c3⟩
  have b3 := onto b2 c3
  rw [digs_val, digs_val] at hval
  clear b2 d12 d2 c3
  go_wp2_with fail
  refine (whole_any false g 8 cap L hlen (by decide) (by decide) hcap hdig _ hN).mono ?_
  rintro e w4 ⟨rfl, c4⟩
  have b4 := onto b3 c4
  rw [hval, HS.out]
  clear b3 c4 hN
  go_wp2_with fail
  go_ret2
  exact ⟨rfl, b4⟩

theorem refTimes64_any (a b : Int) (ha : Whole a) (hb : Whole b) (w : World) :
    Calls Try.prog 42 #[.int .i64 a, .int .i64 b] w fun e w' => e = .returned (.tuple #[.int .i64 (fitV (a * b)), .int .i64 (fitE (a * b))]) ∧ Below w.heap.size w w' := by
  cases h1 : decide (a < 0) <;> cases h2 : decide (b < 0)
  · exact refTimes64_false_false a b ha hb h1 h2 w
  · exact refTimes64_false_true a b ha hb h1 h2 w
  · exact refTimes64_true_false a b ha hb h1 h2 w
  · exact refTimes64_true_true a b ha hb h1 h2 w
end Go.Proofs.Ytebdlmjpgohngaa
