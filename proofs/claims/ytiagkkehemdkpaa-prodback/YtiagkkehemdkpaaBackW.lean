/-
  ProdBack's walk: what is added is taken away again, and the other way round; a product is there just where its quotient tells. Condition: both are of 64 bits with a sign.
-/
import Derived.Test.YtiagkkehemdkpaaLong
namespace Go.Proofs.Ytiagkkehemdkpaa
open Go.RowKit

set_option maxHeartbeats 2000000 in
theorem back_yes_yes_zero (a b P : Int) (ha : Whole a) (hb : Whole b) (hP : Hid (a * b = P)) (hs : Whole (a + b)) (hd : Whole (a - b)) (hp : Whole P) (hz : b = 0) (w : World) :
    Calls Try.prog 7 #[.int .i64 a, .int .i64 b] w fun e w' => e = .returned (.bool true) ∧ Below w.heap.size w w' := by
  subst hz
  have hz0 : P = 0 := by rw [← hP.out]; omega
  subst hz0
  have e0 : a + 0 = a := by omega
  have e1 : a - 0 = a := by omega
  have H1 := Lib.hid (fitV_yes hs)
  have H2 := Lib.hid (fitE_yes hs)
  have H3 := Lib.hid (fitV_yes hd)
  have H4 := Lib.hid (fitE_yes hd)
  have H5 := Lib.hid (fitV_yes hp)
  have H6 := Lib.hid (fitE_yes hp)
  have A1 := Lib.hid (fitV_yes ha)
  have A2 := Lib.hid (fitE_yes ha)
  have HQ : Hid (0 * a = 0) := (Int.mul_comm _ _).trans hP.out
  go_enter Try.func7, Try.ntmps7
  go_wp2_with fail
  refine (plus_any _ _ ha hb _).mono ?_
  rintro e w1 ⟨rfl, rfl⟩
  rw [H1.out, H2.out]
  go_wp2_with fail
  refine (minus_any _ _ ha hb _).mono ?_
  rintro e w1 ⟨rfl, rfl⟩
  rw [show a - 0 = a by omega, A1.out, A2.out]
  go_wp2_with fail
  refine (minus_any _ _ ha hb _).mono ?_
  rintro e w1 ⟨rfl, rfl⟩
  rw [H3.out, H4.out]
  go_wp2_with fail
  refine (plus_any _ _ ha hb _).mono ?_
  rintro e w1 ⟨rfl, rfl⟩
  rw [show a + 0 = a by omega, A1.out, A2.out]
  go_wp2_with fail
  refine (product_any _ _ ha hb _).mono ?_
  rintro e w1 ⟨rfl, b1⟩
  rw [hP.out, H5.out, H6.out]
  go_wp2_with fail
  refine (product_any _ _ hb ha _).mono ?_
  rintro e w2 ⟨rfl, b2⟩
  rw [HQ.out, H5.out, H6.out]
  have b3 := b1.trans (b2.mono b1.size)
  clear b1 b2
  go_wp2_with fail
  refine (fixed_any _).mono ?_
  rintro e w4 ⟨rfl, b4⟩
  have b5 := b3.trans (b4.mono b3.size)
  clear b3 b4
  go_wp2_with fail
  go_ret
  exact ⟨rfl, b5⟩

set_option maxHeartbeats 2000000 in
theorem back_yes_yes_yes (a b P : Int) (ha : Whole a) (hb : Whole b) (hP : Hid (a * b = P)) (hs : Whole (a + b)) (hd : Whole (a - b)) (hp : Whole P) (hz : b ≠ 0) (w : World) :
    Calls Try.prog 7 #[.int .i64 a, .int .i64 b] w fun e w' => e = .returned (.bool true) ∧ Below w.heap.size w w' := by
  have q1 : P.tdiv b = a := by rw [← hP.out]; exact Int.mul_tdiv_cancel a hz
  have q2 : P.tmod b = 0 := by rw [← hP.out]; exact Int.mul_tmod_left a b
  have q3 : wrap64 a = a := by have := ha; unfold Whole at this; unfold wrap64; omega
  have H1 := Lib.hid (fitV_yes hs)
  have H2 := Lib.hid (fitE_yes hs)
  have H3 := Lib.hid (fitV_yes hd)
  have H4 := Lib.hid (fitE_yes hd)
  have H5 := Lib.hid (fitV_yes hp)
  have H6 := Lib.hid (fitE_yes hp)
  have A1 := Lib.hid (fitV_yes ha)
  have A2 := Lib.hid (fitE_yes ha)
  have HQ : Hid (b * a = P) := (Int.mul_comm _ _).trans hP.out
  go_enter Try.func7, Try.ntmps7
  go_wp2_with fail
  refine (plus_any _ _ ha hb _).mono ?_
  rintro e w1 ⟨rfl, rfl⟩
  rw [H1.out, H2.out]
  go_wp2_with fail
  refine (minus_any _ _ hs hb _).mono ?_
  rintro e w1 ⟨rfl, rfl⟩
  rw [show a + b - b = a by omega, A1.out, A2.out]
  go_wp2_with fail
  refine (minus_any _ _ ha hb _).mono ?_
  rintro e w1 ⟨rfl, rfl⟩
  rw [H3.out, H4.out]
  go_wp2_with fail
  refine (plus_any _ _ hd hb _).mono ?_
  rintro e w1 ⟨rfl, rfl⟩
  rw [show a - b + b = a by omega, A1.out, A2.out]
  go_wp2_with fail
  refine (product_any _ _ ha hb _).mono ?_
  rintro e w1 ⟨rfl, b1⟩
  rw [hP.out, H5.out, H6.out]
  go_wp2_with fail
  refine (product_any _ _ hb ha _).mono ?_
  rintro e w2 ⟨rfl, b2⟩
  rw [HQ.out, H5.out, H6.out]
  have b3 := b1.trans (b2.mono b1.size)
  clear b1 b2
  go_wp2_with fail
  refine (fixed_any _).mono ?_
  rintro e w4 ⟨rfl, b4⟩
  have b5 := b3.trans (b4.mono b3.size)
  clear b3 b4
  go_wp2_with fail
  go_ret
  exact ⟨rfl, b5⟩

set_option maxHeartbeats 2000000 in
theorem back_yes_yes_no (a b P : Int) (ha : Whole a) (hb : Whole b) (hP : Hid (a * b = P)) (hs : Whole (a + b)) (hd : Whole (a - b)) (hp : ¬ Whole P) (hz : b ≠ 0) (hza : a ≠ 0) (w : World) :
    Calls Try.prog 7 #[.int .i64 a, .int .i64 b] w fun e w' => e = .returned (.bool true) ∧ Below w.heap.size w w' := by
  have z1 : (a != 0) = true := by simpa using hza
  have z2 : (b != 0) = true := by simpa using hz
  have H1 := Lib.hid (fitV_yes hs)
  have H2 := Lib.hid (fitE_yes hs)
  have H3 := Lib.hid (fitV_yes hd)
  have H4 := Lib.hid (fitE_yes hd)
  have H5 := Lib.hid (fitV_no hp)
  have H6 := Lib.hid (fitE_no hp)
  have A1 := Lib.hid (fitV_yes ha)
  have A2 := Lib.hid (fitE_yes ha)
  have HQ : Hid (b * a = P) := (Int.mul_comm _ _).trans hP.out
  go_enter Try.func7, Try.ntmps7
  go_wp2_with fail
  refine (plus_any _ _ ha hb _).mono ?_
  rintro e w1 ⟨rfl, rfl⟩
  rw [H1.out, H2.out]
  go_wp2_with fail
  refine (minus_any _ _ hs hb _).mono ?_
  rintro e w1 ⟨rfl, rfl⟩
  rw [show a + b - b = a by omega, A1.out, A2.out]
  go_wp2_with fail
  refine (minus_any _ _ ha hb _).mono ?_
  rintro e w1 ⟨rfl, rfl⟩
  rw [H3.out, H4.out]
  go_wp2_with fail
  refine (plus_any _ _ hd hb _).mono ?_
  rintro e w1 ⟨rfl, rfl⟩
  rw [show a - b + b = a by omega, A1.out, A2.out]
  go_wp2_with fail
  refine (product_any _ _ ha hb _).mono ?_
  rintro e w1 ⟨rfl, b1⟩
  rw [hP.out, H5.out, H6.out]
  go_wp2_with fail
  refine (product_any _ _ hb ha _).mono ?_
  rintro e w2 ⟨rfl, b2⟩
  rw [HQ.out, H5.out, H6.out]
  have b3 := b1.trans (b2.mono b1.size)
  clear b1 b2
  go_wp2_with fail
  refine (fixed_any _).mono ?_
  rintro e w4 ⟨rfl, b4⟩
  have b5 := b3.trans (b4.mono b3.size)
  clear b3 b4
  go_wp2_with fail
  go_ret
  exact ⟨rfl, b5⟩

set_option maxHeartbeats 2000000 in
theorem back_yes_no_yes (a b P : Int) (ha : Whole a) (hb : Whole b) (hP : Hid (a * b = P)) (hs : Whole (a + b)) (hd : ¬ Whole (a - b)) (hp : Whole P) (hz : b ≠ 0) (w : World) :
    Calls Try.prog 7 #[.int .i64 a, .int .i64 b] w fun e w' => e = .returned (.bool true) ∧ Below w.heap.size w w' := by
  have q1 : P.tdiv b = a := by rw [← hP.out]; exact Int.mul_tdiv_cancel a hz
  have q2 : P.tmod b = 0 := by rw [← hP.out]; exact Int.mul_tmod_left a b
  have q3 : wrap64 a = a := by have := ha; unfold Whole at this; unfold wrap64; omega
  have H1 := Lib.hid (fitV_yes hs)
  have H2 := Lib.hid (fitE_yes hs)
  have H3 := Lib.hid (fitV_no hd)
  have H4 := Lib.hid (fitE_no hd)
  have H5 := Lib.hid (fitV_yes hp)
  have H6 := Lib.hid (fitE_yes hp)
  have A1 := Lib.hid (fitV_yes ha)
  have A2 := Lib.hid (fitE_yes ha)
  have HQ : Hid (b * a = P) := (Int.mul_comm _ _).trans hP.out
  go_enter Try.func7, Try.ntmps7
  go_wp2_with fail
  refine (plus_any _ _ ha hb _).mono ?_
  rintro e w1 ⟨rfl, rfl⟩
  rw [H1.out, H2.out]
  go_wp2_with fail
  refine (minus_any _ _ hs hb _).mono ?_
  rintro e w1 ⟨rfl, rfl⟩
  rw [show a + b - b = a by omega, A1.out, A2.out]
  go_wp2_with fail
  refine (minus_any _ _ ha hb _).mono ?_
  rintro e w1 ⟨rfl, rfl⟩
  rw [H3.out, H4.out]
  go_wp2_with fail
  refine (product_any _ _ ha hb _).mono ?_
  rintro e w1 ⟨rfl, b1⟩
  rw [hP.out, H5.out, H6.out]
  go_wp2_with fail
  refine (product_any _ _ hb ha _).mono ?_
  rintro e w2 ⟨rfl, b2⟩
  rw [HQ.out, H5.out, H6.out]
  have b3 := b1.trans (b2.mono b1.size)
  clear b1 b2
  go_wp2_with fail
  refine (fixed_any _).mono ?_
  rintro e w4 ⟨rfl, b4⟩
  have b5 := b3.trans (b4.mono b3.size)
  clear b3 b4
  go_wp2_with fail
  go_ret
  exact ⟨rfl, b5⟩

set_option maxHeartbeats 2000000 in
theorem back_yes_no_no (a b P : Int) (ha : Whole a) (hb : Whole b) (hP : Hid (a * b = P)) (hs : Whole (a + b)) (hd : ¬ Whole (a - b)) (hp : ¬ Whole P) (hz : b ≠ 0) (hza : a ≠ 0) (w : World) :
    Calls Try.prog 7 #[.int .i64 a, .int .i64 b] w fun e w' => e = .returned (.bool true) ∧ Below w.heap.size w w' := by
  have z1 : (a != 0) = true := by simpa using hza
  have z2 : (b != 0) = true := by simpa using hz
  have H1 := Lib.hid (fitV_yes hs)
  have H2 := Lib.hid (fitE_yes hs)
  have H3 := Lib.hid (fitV_no hd)
  have H4 := Lib.hid (fitE_no hd)
  have H5 := Lib.hid (fitV_no hp)
  have H6 := Lib.hid (fitE_no hp)
  have A1 := Lib.hid (fitV_yes ha)
  have A2 := Lib.hid (fitE_yes ha)
  have HQ : Hid (b * a = P) := (Int.mul_comm _ _).trans hP.out
  go_enter Try.func7, Try.ntmps7
  go_wp2_with fail
  refine (plus_any _ _ ha hb _).mono ?_
  rintro e w1 ⟨rfl, rfl⟩
  rw [H1.out, H2.out]
  go_wp2_with fail
  refine (minus_any _ _ hs hb _).mono ?_
  rintro e w1 ⟨rfl, rfl⟩
  rw [show a + b - b = a by omega, A1.out, A2.out]
  go_wp2_with fail
  refine (minus_any _ _ ha hb _).mono ?_
  rintro e w1 ⟨rfl, rfl⟩
  rw [H3.out, H4.out]
  go_wp2_with fail
  refine (product_any _ _ ha hb _).mono ?_
  rintro e w1 ⟨rfl, b1⟩
  rw [hP.out, H5.out, H6.out]
  go_wp2_with fail
  refine (product_any _ _ hb ha _).mono ?_
  rintro e w2 ⟨rfl, b2⟩
  rw [HQ.out, H5.out, H6.out]
  have b3 := b1.trans (b2.mono b1.size)
  clear b1 b2
  go_wp2_with fail
  refine (fixed_any _).mono ?_
  rintro e w4 ⟨rfl, b4⟩
  have b5 := b3.trans (b4.mono b3.size)
  clear b3 b4
  go_wp2_with fail
  go_ret
  exact ⟨rfl, b5⟩

set_option maxHeartbeats 2000000 in
theorem back_no_yes_yes (a b P : Int) (ha : Whole a) (hb : Whole b) (hP : Hid (a * b = P)) (hs : ¬ Whole (a + b)) (hd : Whole (a - b)) (hp : Whole P) (hz : b ≠ 0) (w : World) :
    Calls Try.prog 7 #[.int .i64 a, .int .i64 b] w fun e w' => e = .returned (.bool true) ∧ Below w.heap.size w w' := by
  have q1 : P.tdiv b = a := by rw [← hP.out]; exact Int.mul_tdiv_cancel a hz
  have q2 : P.tmod b = 0 := by rw [← hP.out]; exact Int.mul_tmod_left a b
  have q3 : wrap64 a = a := by have := ha; unfold Whole at this; unfold wrap64; omega
  have H1 := Lib.hid (fitV_no hs)
  have H2 := Lib.hid (fitE_no hs)
  have H3 := Lib.hid (fitV_yes hd)
  have H4 := Lib.hid (fitE_yes hd)
  have H5 := Lib.hid (fitV_yes hp)
  have H6 := Lib.hid (fitE_yes hp)
  have A1 := Lib.hid (fitV_yes ha)
  have A2 := Lib.hid (fitE_yes ha)
  have HQ : Hid (b * a = P) := (Int.mul_comm _ _).trans hP.out
  go_enter Try.func7, Try.ntmps7
  go_wp2_with fail
  refine (plus_any _ _ ha hb _).mono ?_
  rintro e w1 ⟨rfl, rfl⟩
  rw [H1.out, H2.out]
  go_wp2_with fail
  refine (minus_any _ _ ha hb _).mono ?_
  rintro e w1 ⟨rfl, rfl⟩
  rw [H3.out, H4.out]
  go_wp2_with fail
  refine (plus_any _ _ hd hb _).mono ?_
  rintro e w1 ⟨rfl, rfl⟩
  rw [show a - b + b = a by omega, A1.out, A2.out]
  go_wp2_with fail
  refine (product_any _ _ ha hb _).mono ?_
  rintro e w1 ⟨rfl, b1⟩
  rw [hP.out, H5.out, H6.out]
  go_wp2_with fail
  refine (product_any _ _ hb ha _).mono ?_
  rintro e w2 ⟨rfl, b2⟩
  rw [HQ.out, H5.out, H6.out]
  have b3 := b1.trans (b2.mono b1.size)
  clear b1 b2
  go_wp2_with fail
  refine (fixed_any _).mono ?_
  rintro e w4 ⟨rfl, b4⟩
  have b5 := b3.trans (b4.mono b3.size)
  clear b3 b4
  go_wp2_with fail
  go_ret
  exact ⟨rfl, b5⟩

set_option maxHeartbeats 2000000 in
theorem back_no_yes_no (a b P : Int) (ha : Whole a) (hb : Whole b) (hP : Hid (a * b = P)) (hs : ¬ Whole (a + b)) (hd : Whole (a - b)) (hp : ¬ Whole P) (hz : b ≠ 0) (hza : a ≠ 0) (w : World) :
    Calls Try.prog 7 #[.int .i64 a, .int .i64 b] w fun e w' => e = .returned (.bool true) ∧ Below w.heap.size w w' := by
  have z1 : (a != 0) = true := by simpa using hza
  have z2 : (b != 0) = true := by simpa using hz
  have H1 := Lib.hid (fitV_no hs)
  have H2 := Lib.hid (fitE_no hs)
  have H3 := Lib.hid (fitV_yes hd)
  have H4 := Lib.hid (fitE_yes hd)
  have H5 := Lib.hid (fitV_no hp)
  have H6 := Lib.hid (fitE_no hp)
  have A1 := Lib.hid (fitV_yes ha)
  have A2 := Lib.hid (fitE_yes ha)
  have HQ : Hid (b * a = P) := (Int.mul_comm _ _).trans hP.out
  go_enter Try.func7, Try.ntmps7
  go_wp2_with fail
  refine (plus_any _ _ ha hb _).mono ?_
  rintro e w1 ⟨rfl, rfl⟩
  rw [H1.out, H2.out]
  go_wp2_with fail
  refine (minus_any _ _ ha hb _).mono ?_
  rintro e w1 ⟨rfl, rfl⟩
  rw [H3.out, H4.out]
  go_wp2_with fail
  refine (plus_any _ _ hd hb _).mono ?_
  rintro e w1 ⟨rfl, rfl⟩
  rw [show a - b + b = a by omega, A1.out, A2.out]
  go_wp2_with fail
  refine (product_any _ _ ha hb _).mono ?_
  rintro e w1 ⟨rfl, b1⟩
  rw [hP.out, H5.out, H6.out]
  go_wp2_with fail
  refine (product_any _ _ hb ha _).mono ?_
  rintro e w2 ⟨rfl, b2⟩
  rw [HQ.out, H5.out, H6.out]
  have b3 := b1.trans (b2.mono b1.size)
  clear b1 b2
  go_wp2_with fail
  refine (fixed_any _).mono ?_
  rintro e w4 ⟨rfl, b4⟩
  have b5 := b3.trans (b4.mono b3.size)
  clear b3 b4
  go_wp2_with fail
  go_ret
  exact ⟨rfl, b5⟩

set_option maxHeartbeats 2000000 in
theorem back_no_no_yes (a b P : Int) (ha : Whole a) (hb : Whole b) (hP : Hid (a * b = P)) (hs : ¬ Whole (a + b)) (hd : ¬ Whole (a - b)) (hp : Whole P) (hz : b ≠ 0) (w : World) :
    Calls Try.prog 7 #[.int .i64 a, .int .i64 b] w fun e w' => e = .returned (.bool true) ∧ Below w.heap.size w w' := by
  have q1 : P.tdiv b = a := by rw [← hP.out]; exact Int.mul_tdiv_cancel a hz
  have q2 : P.tmod b = 0 := by rw [← hP.out]; exact Int.mul_tmod_left a b
  have q3 : wrap64 a = a := by have := ha; unfold Whole at this; unfold wrap64; omega
  have H1 := Lib.hid (fitV_no hs)
  have H2 := Lib.hid (fitE_no hs)
  have H3 := Lib.hid (fitV_no hd)
  have H4 := Lib.hid (fitE_no hd)
  have H5 := Lib.hid (fitV_yes hp)
  have H6 := Lib.hid (fitE_yes hp)
  have A1 := Lib.hid (fitV_yes ha)
  have A2 := Lib.hid (fitE_yes ha)
  have HQ : Hid (b * a = P) := (Int.mul_comm _ _).trans hP.out
  go_enter Try.func7, Try.ntmps7
  go_wp2_with fail
  refine (plus_any _ _ ha hb _).mono ?_
  rintro e w1 ⟨rfl, rfl⟩
  rw [H1.out, H2.out]
  go_wp2_with fail
  refine (minus_any _ _ ha hb _).mono ?_
  rintro e w1 ⟨rfl, rfl⟩
  rw [H3.out, H4.out]
  go_wp2_with fail
  refine (product_any _ _ ha hb _).mono ?_
  rintro e w1 ⟨rfl, b1⟩
  rw [hP.out, H5.out, H6.out]
  go_wp2_with fail
  refine (product_any _ _ hb ha _).mono ?_
  rintro e w2 ⟨rfl, b2⟩
  rw [HQ.out, H5.out, H6.out]
  have b3 := b1.trans (b2.mono b1.size)
  clear b1 b2
  go_wp2_with fail
  refine (fixed_any _).mono ?_
  rintro e w4 ⟨rfl, b4⟩
  have b5 := b3.trans (b4.mono b3.size)
  clear b3 b4
  go_wp2_with fail
  go_ret
  exact ⟨rfl, b5⟩

set_option maxHeartbeats 2000000 in
theorem back_no_no_no (a b P : Int) (ha : Whole a) (hb : Whole b) (hP : Hid (a * b = P)) (hs : ¬ Whole (a + b)) (hd : ¬ Whole (a - b)) (hp : ¬ Whole P) (hz : b ≠ 0) (hza : a ≠ 0) (w : World) :
    Calls Try.prog 7 #[.int .i64 a, .int .i64 b] w fun e w' => e = .returned (.bool true) ∧ Below w.heap.size w w' := by
  have z1 : (a != 0) = true := by simpa using hza
  have z2 : (b != 0) = true := by simpa using hz
  have H1 := Lib.hid (fitV_no hs)
  have H2 := Lib.hid (fitE_no hs)
  have H3 := Lib.hid (fitV_no hd)
  have H4 := Lib.hid (fitE_no hd)
  have H5 := Lib.hid (fitV_no hp)
  have H6 := Lib.hid (fitE_no hp)
  have A1 := Lib.hid (fitV_yes ha)
  have A2 := Lib.hid (fitE_yes ha)
  have HQ : Hid (b * a = P) := (Int.mul_comm _ _).trans hP.out
  go_enter Try.func7, Try.ntmps7
  go_wp2_with fail
  refine (plus_any _ _ ha hb _).mono ?_
  rintro e w1 ⟨rfl, rfl⟩
  rw [H1.out, H2.out]
  go_wp2_with fail
  refine (minus_any _ _ ha hb _).mono ?_
  rintro e w1 ⟨rfl, rfl⟩
  rw [H3.out, H4.out]
  go_wp2_with fail
  refine (product_any _ _ ha hb _).mono ?_
  rintro e w1 ⟨rfl, b1⟩
  rw [hP.out, H5.out, H6.out]
  go_wp2_with fail
  refine (product_any _ _ hb ha _).mono ?_
  rintro e w2 ⟨rfl, b2⟩
  rw [HQ.out, H5.out, H6.out]
  have b3 := b1.trans (b2.mono b1.size)
  clear b1 b2
  go_wp2_with fail
  refine (fixed_any _).mono ?_
  rintro e w4 ⟨rfl, b4⟩
  have b5 := b3.trans (b4.mono b3.size)
  clear b3 b4
  go_wp2_with fail
  go_ret
  exact ⟨rfl, b5⟩

theorem back_any (a b : Int) (ha : Whole a) (hb : Whole b) (w : World) :
    Calls Try.prog 7 #[.int .i64 a, .int .i64 b] w fun e w' => e = .returned (.bool true) ∧ Below w.heap.size w w' := by
  by_cases hz : b = 0
  · exact back_yes_yes_zero a b (a * b) ha hb rfl (by rw [hz, Int.add_zero]; exact ha) (by rw [hz, Int.sub_zero]; exact ha) (by rw [hz, Int.mul_zero]; unfold Whole; omega) hz w
  · by_cases hp : Whole (a * b)
    · by_cases hs : Whole (a + b) <;> by_cases hd : Whole (a - b)
      · exact back_yes_yes_yes a b _ ha hb rfl hs hd hp hz w
      · exact back_yes_no_yes a b _ ha hb rfl hs hd hp hz w
      · exact back_no_yes_yes a b _ ha hb rfl hs hd hp hz w
      · exact back_no_no_yes a b _ ha hb rfl hs hd hp hz w
    · have hza : a ≠ 0 := fun h => hp (by rw [h, Int.zero_mul]; unfold Whole; omega)
      by_cases hs : Whole (a + b) <;> by_cases hd : Whole (a - b)
      · exact back_yes_yes_no a b _ ha hb rfl hs hd hp hz hza w
      · exact back_yes_no_no a b _ ha hb rfl hs hd hp hz hza w
      · exact back_no_yes_no a b _ ha hb rfl hs hd hp hz hza w
      · exact back_no_no_no a b _ ha hb rfl hs hd hp hz hza w
end Go.Proofs.Ytiagkkehemdkpaa
