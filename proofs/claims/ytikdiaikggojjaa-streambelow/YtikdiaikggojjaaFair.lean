/-
  StreamFair's numbers, and its walk: for every x, n, k the law answers true and turns no memory that was there. Conditions: the numbers are at least 0 and below 2^64.
-/
import Derived.Test.YtikdiaikggojjaaListSrc
import Derived.Deep.RegionHeld3
namespace Go.Proofs.Ytikdiaikggojjaa
open Go.RowKit

theorem lastI_eq (n : Int) (_ : 0 < n) : lastI n = 18446744073709551616 / n * n - 1 := by
  unfold lastI
  have e : (18446744073709551616 - n) % n = 18446744073709551616 % n := by rw [Int.sub_emod, Int.emod_self, Int.sub_zero, Int.emod_emod_of_dvd _ (Int.dvd_refl n)]
  have := Int.emod_add_ediv_mul 18446744073709551616 n
  rw [e]; omega

theorem last_pos (n : Int) (h0 : 0 < n) (h1 : n < 18446744073709551616) : 0 ≤ lastI n ∧ lastI n < 18446744073709551616 := by
  unfold lastI
  have a := Int.emod_nonneg (18446744073709551616 - n) (by omega : n ≠ 0)
  have b := Int.emod_lt_of_pos (18446744073709551616 - n) h0
  omega

/-- A number that won't do is in the upper half, in the last, broken, group. -/
theorem too_far (x n : Int) (h0 : 0 < n) (h1 : n < 18446744073709551616) (hx : x < 18446744073709551616) (h : ¬ x ≤ lastI n) : 9223372036854775808 ≤ x ∧ x / n = 18446744073709551615 / n := by
  rw [lastI_eq n h0] at h
  have hq := Int.emod_add_ediv_mul 18446744073709551616 n
  have a := Int.emod_nonneg 18446744073709551616 (by omega : n ≠ 0)
  have b := Int.emod_lt_of_pos 18446744073709551616 h0
  generalize hQ : 18446744073709551616 / n = q at *
  have q1 : 1 ≤ q := by rw [← hQ]; exact (Int.le_ediv_iff_mul_le h0).2 (by omega)
  have n1 : n ≤ q * n := by have := Int.mul_le_mul_of_nonneg_right q1 (by omega : 0 ≤ n); omega
  have e1 : x / n = q := by
    apply Int.le_antisymm
    · have : x / n < q + 1 := (Int.ediv_lt_iff_lt_mul h0).2 (by rw [Int.add_mul]; omega)
      omega
    · exact (Int.le_ediv_iff_mul_le h0).2 (by omega)
  have e2 : 18446744073709551615 / n = q := by
    apply Int.le_antisymm
    · have : 18446744073709551615 / n < q + 1 := (Int.ediv_lt_iff_lt_mul h0).2 (by rw [Int.add_mul]; omega)
      omega
    · exact (Int.le_ediv_iff_mul_le h0).2 (by omega)
  exact ⟨by omega, by rw [e1, e2]⟩

/-- Of a number that will do, so will each of its group. -/
theorem beside (x n k : Int) (h0 : 0 < n) (h1 : n < 18446744073709551616) (hx0 : 0 ≤ x) (h : x ≤ lastI n) :
    0 ≤ x / n * n ∧ x / n * n + k % n ≤ lastI n ∧ x / n * n ≤ x / n * n + k % n ∧ (x / n * n + k % n) % n = k % n := by
  have l2 := last_pos n h0 h1
  rw [lastI_eq n h0] at h l2 ⊢
  have a := Int.emod_nonneg k (by omega : n ≠ 0)
  have b := Int.emod_lt_of_pos k h0
  generalize 18446744073709551616 / n = q at *
  have d : x / n < q := (Int.ediv_lt_iff_lt_mul h0).2 (by omega)
  have p : 0 ≤ x / n := Int.ediv_nonneg hx0 (by omega)
  have c : (x / n + 1) * n ≤ q * n := Int.mul_le_mul_of_nonneg_right (by omega) (by omega)
  rw [Int.add_mul] at c
  refine ⟨Int.mul_nonneg p (by omega), by omega, by omega, ?_⟩
  rw [Int.add_comm, Int.add_mul_emod_self_right, Int.emod_emod_of_dvd _ (Int.dvd_refl n)]

theorem draw_one (x n : Int) (h0 : 0 < n) (h : x ≤ lastI n) : draw (nums [x]) n 0 = (x % n, 1, 0) := by
  unfold draw drawTo
  rw [if_neg (by omega), if_pos (show nums [x] 0 ≤ lastI n from h)]; rfl
theorem draw_two (x n : Int) (h0 : 0 < n) (h1 : n < 18446744073709551616) (h : ¬ x ≤ lastI n) : draw (nums [x]) n 0 = (0, 2, 0) := by
  unfold draw drawTo drawTo
  rw [if_neg (by omega), if_neg (show ¬ nums [x] 0 ≤ lastI n from h), if_pos (show nums [x] 1 ≤ lastI n from (last_pos n h0 h1).1)]
  simp [nums]

set_option maxHeartbeats 400000 in
theorem fair_zero (x k : Int) (w : World) :
    Calls Try.prog 4 #[.int .u64 x, .int .u64 0, .int .u64 k] w fun e w' => e = .returned (.bool true) ∧ Below w.heap.size w w' := by
  go_enter Try.func4, Try.ntmps4
  go_wp2_with fail
  refine (fixed_any _).mono ?_
  rintro e w1 ⟨rfl, b1⟩
  go_wp2_with fail
  go_ret
  exact ⟨rfl, b1⟩

set_option maxHeartbeats 400000 in
theorem fair_far (x n k : Int) (h0 : 0 < n) (h1 : n < 18446744073709551616) (hx0 : 0 ≤ x) (hx1 : x < 18446744073709551616) (h : ¬ x ≤ lastI n) (w : World) :
    Calls Try.prog 4 #[.int .u64 x, .int .u64 n, .int .u64 k] w fun e w' => e = .returned (.bool true) ∧ Below w.heap.size w w' := by
  have hl : All64 [x] := by unfold All64; simp; omega
  have hn : n ≠ 0 := by omega
  have hd := Lib.hid (draw_two x n h0 h1 h)
  obtain ⟨f1, f2⟩ := too_far x n h0 h1 hx1 h
  have F3 : Hid ((IntKind.u64.wrap (x.tdiv n) == IntKind.u64.wrap (Int.tdiv 18446744073709551615 n)) = true) := by
    show _ = _
    rw [Int.tdiv_eq_ediv_of_nonneg hx0, Int.tdiv_eq_ediv_of_nonneg (by decide), f2]; simp
  clear h f2
  go_enter Try.func4, Try.ntmps4
  go_wp2_with fail
  refine (below_list _ _ _ _ hl n (by omega) h1 0 _ (by decide) (ListAt.made1 w _) 0 2 0 hd.out).mono ?_
  rintro e w1 ⟨rfl, l1, hB1⟩
  have b1 := hB1.past2
  have c1 := l1.c1
  have HL := Lib.hid (l1.below (Below.refl _ _).drew)
  have b1d := b1.drew
  clear hB1 l1
  go_wp2_with fail
  go_region_held3 (fun w' => w'.cell? ⟨w.heap.size + 1, 1, none⟩ = some (.int .i64 2)) (first | exact c1 | exact c2)
    (first | (go_at_call 6; refine (fixed_any _).mono ?_; rintro e w2 ⟨rfl, b2⟩; have c2 := (HL.out.below b2).c1; have b3 := b1d.trans (b2.mono b1d.size); clear b2))
  all_goals go_wp2
  go_ret
  exact ⟨congrArg (fun b => Ending.returned (.bool b)) F3.out, b3⟩

set_option maxHeartbeats 400000 in
theorem fair_near (x n k : Int) (h0 : 0 < n) (h1 : n < 18446744073709551616) (hx0 : 0 ≤ x) (hx1 : x < 18446744073709551616) (hk0 : 0 ≤ k) (h : x ≤ lastI n) (w : World) :
    Calls Try.prog 4 #[.int .u64 x, .int .u64 n, .int .u64 k] w fun e w' => e = .returned (.bool true) ∧ Below w.heap.size w w' := by
  have hl : All64 [x] := by unfold All64; simp; omega
  have hn : n ≠ 0 := by omega
  have hd := Lib.hid (draw_one x n h0 h)
  obtain ⟨f0, f1, f2, f3⟩ := beside x n k h0 h1 hx0 h
  have l2 := last_pos n h0 h1
  have hd2 := Lib.hid (draw_one (x / n * n + k % n) n h0 f1)
  have hl2 : All64 [x / n * n + k % n] := by unfold All64; simp; omega
  have m0 := Int.emod_nonneg k hn
  clear h
  go_enter Try.func4, Try.ntmps4
  go_wp2_with fail
  refine (below_list _ _ _ _ hl n (by omega) h1 0 _ (by decide) (ListAt.made1 w _) _ 1 0 hd.out).mono ?_
  rintro e w1 ⟨rfl, l1, hB1⟩
  have b1 := hB1.past2
  have c1 := l1.c1
  clear hB1 l1
  go_wp2_with fail
  go_quiet (fail)
  have b1' : Below w.heap.size w (w1.drewN nq) := ⟨b1.os, b1.tape, b1.output, b1.size, b1.block⟩
  clear b1 c1
  generalize w1.drewN nq = w1b at *
  go_wp2_with fail
  refine (below_list _ _ _ _ hl2 n (by omega) h1 0 _ (by decide) (ListAt.made1 w1b _) _ 1 0 hd2.out).mono ?_
  rintro e w2 ⟨rfl, l2, hB2⟩
  have b2 := b1'.trans (hB2.past2.mono b1'.size)
  have HL := Lib.hid l2
  clear hB2 l2 b1'
  go_wp2_with fail
  refine (fixed_any _).mono ?_
  rintro e w3 ⟨rfl, b3⟩
  have b4 := b2.trans (b3.mono b2.size)
  have c3 := (HL.out.below b3).c1
  clear b3 b2
  go_wp2_with fail
  go_ret
  exact ⟨rfl, b4⟩

theorem fair_any (x n k : Int) (h0 : 0 ≤ n) (h1 : n < 18446744073709551616) (hx0 : 0 ≤ x) (hx1 : x < 18446744073709551616) (hk0 : 0 ≤ k) (w : World) :
    Calls Try.prog 4 #[.int .u64 x, .int .u64 n, .int .u64 k] w fun e w' => e = .returned (.bool true) ∧ Below w.heap.size w w' := by
  by_cases hn : n = 0
  · subst hn; exact fair_zero x k w
  · by_cases h : x ≤ lastI n
    · exact fair_near x n k (by omega) h1 hx0 hx1 hk0 h w
    · exact fair_far x n k (by omega) h1 hx0 hx1 h w
end Go.Proofs.Ytikdiaikggojjaa
