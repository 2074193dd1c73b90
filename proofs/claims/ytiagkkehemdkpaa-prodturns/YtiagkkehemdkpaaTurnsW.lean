/-
  ProdTurns' walk: sums and products don't hang on the order; a product grows with what is multiplied. Condition: the three are of 64 bits.
-/
import Derived.Test.YtiagkkehemdkpaaVars
namespace Go.Proofs.Ytiagkkehemdkpaa
open Go.RowKit

/-- How two products by the same number stand. -/
theorem order_num (a b n : Int) (hn : 0 ≤ n) : cmpI (a * n) (b * n) = if n = 0 then 0 else cmpI a b := by
  by_cases h : n = 0
  · rw [if_pos h, h, Int.mul_zero, Int.mul_zero]; rfl
  · rw [if_neg h]
    rcases Int.lt_trichotomy a b with k | k | k
    · rw [cmpI_lt k, cmpI_lt (Int.mul_lt_mul_of_pos_right k (by omega))]
    · rw [cmpI_eq k, cmpI_eq (by rw [k])]
    · rw [cmpI_gt k, cmpI_gt (Int.mul_lt_mul_of_pos_right k (by omega))]

theorem block_in {w : World} {b off : Nat} {v : Value} (h : w.cell? ⟨b, off, none⟩ = some v) : b < w.heap.size := by
  rcases Nat.lt_or_ge b w.heap.size with h' | h'
  · exact h'
  · simp [World.cell?, Array.getElem?_eq_none h'] at h

set_option maxRecDepth 100000 in
set_option maxHeartbeats 8000000 in
theorem turns_any (a b n : Int) (ha : Word a) (hb : Word b) (hn : Word n) (w : World) :
    Calls Try.prog 6 #[.int .u64 a, .int .u64 b, .int .u64 n] w fun e w' => e = .returned (.bool true) ∧ Below w.heap.size w w' := by
  have HV : Hid (n * a * b = a * b * n) := by show _ = _; rw [Int.mul_assoc, Int.mul_comm]
  have HT : Hid (n * n + b * a = a * b + n * n) := by show _ = _; rw [Int.mul_comm b a, Int.add_comm]
  have HA : Hid ((0 * 18446744073709551616 + a) * n = a * n) := by show _ = _; rw [Int.zero_mul, Int.zero_add]
  have HB : Hid ((0 * 18446744073709551616 + b) * n = b * n) := by show _ = _; rw [Int.zero_mul, Int.zero_add]
  have HO := Lib.hid (order_num a b n hn.1)
  have z0 : Word 0 := by unfold Word; omega
  go_enter Try.func6, Try.ntmps6
  go_wp2_with fail
  refine (mul_any _ _ ha hb _).mono ?_
  rintro e w1 ⟨rfl, b1⟩
  go_wp2_with fail
  refine (times_any _ _ _ (hi_word ha hb) (lo_word _ _) hn _).mono ?_
  rintro e w2 ⟨rfl, c2⟩
  have b2 := onto b1 c2
  clear b1 c2
  rw [hi_lo]
  go_wp2_with fail
  refine (mul_any _ _ hn ha _).mono ?_
  rintro e w3 ⟨rfl, c3⟩
  have b3 := onto b2 c3
  clear b2 c3
  go_wp2_with fail
  refine (times_any _ _ _ (hi_word hn ha) (lo_word _ _) hb _).mono ?_
  rintro e w4 ⟨rfl, c4⟩
  have b4 := onto b3 c4
  clear b3 c4
  rw [hi_lo, HV.out]
  generalize a * b * n = V at *
  go_wp2_with fail
  refine (mul_any _ _ ha hb _).mono ?_
  rintro e w5 ⟨rfl, c5⟩
  have b5 := onto (more (more b4 _) _) c5
  have x5 := ((At3.new w4 (p0 V) (p1 V) (p2 V)).alloc _).below c5
  have y5 : At3 (w4.heap.size + 1) (p0 V) (p1 V) (p2 V) w5 := by
    have := (At3.new (w4.alloc (.cells #[.int .u64 (p0 V), .int .u64 (p1 V), .int .u64 (p2 V)] 30)) (p0 V) (p1 V) (p2 V)).below c5
    simpa using this
  clear b4 c5
  generalize w4.heap.size = g at *
  go_wp2_with fail
  refine (mul_any _ _ hn hn _).mono ?_
  rintro e w6 ⟨rfl, c6⟩
  have b6 := onto b5 c6
  have x6 := x5.below c6
  have y6 := y5.below c6
  clear b5 x5 y5 c6
  go_wp2_with fail
  refine (add_any _ _ _ _ (hi_word ha hb) (lo_word _ _) (hi_word hn hn) (lo_word _ _) _).mono ?_
  rintro e w7 ⟨rfl, c7⟩
  have b7 := onto b6 c7
  have x7 := x6.below c7
  have y7 := y6.below c7
  clear b6 x6 y6 c7
  rw [hi_lo, hi_lo]
  go_wp2_with fail
  refine (mul_any _ _ hn hn _).mono ?_
  rintro e w8 ⟨rfl, c8⟩
  have b8 := onto (more b7 _) c8
  have x8 := (x7.alloc _).below c8
  have y8 := (y7.alloc _).below c8
  have s8 := (At2.new w7 _ _).below c8
  clear b7 x7 y7 c8
  generalize w7.heap.size = g7 at *
  go_wp2_with fail
  refine (mul_any _ _ hb ha _).mono ?_
  rintro e w9 ⟨rfl, c9⟩
  have b9 := onto b8 c9
  have x9 := x8.below c9
  have y9 := y8.below c9
  have s9 := s8.below c9
  clear b8 x8 y8 s8 c9
  go_wp2_with fail
  refine (add_any _ _ _ _ (hi_word hn hn) (lo_word _ _) (hi_word hb ha) (lo_word _ _) _).mono ?_
  rintro e w10 ⟨rfl, c10⟩
  have b10 := onto b9 c10
  have x10 := x9.below c10
  have y10 := y9.below c10
  have s10 := s9.below c10
  clear b9 x9 y9 s9 c10
  rw [hi_lo, hi_lo, HT.out]
  generalize a * b + n * n = T at *
  go_wp2_with fail
  refine (times_any _ _ _ z0 ha hn _).mono ?_
  rintro e w11 ⟨rfl, c11⟩
  have b11 := onto (more b10 _) c11
  have x11 := (x10.alloc _).below c11
  have y11 := (y10.alloc _).below c11
  have s11 := (s10.alloc _).below c11
  have t11 := (At2.new w10 _ _).below c11
  clear b10 x10 y10 s10 c11
  generalize w10.heap.size = g10 at *
  rw [HA.out]
  go_wp2_with fail
  refine (times_any _ _ _ z0 hb hn _).mono ?_
  rintro e w12 ⟨rfl, c12⟩
  have b12 := onto b11 c12
  have x12 := x11.below c12
  have y12 := y11.below c12
  have s12 := s11.below c12
  have t12 := t11.below c12
  clear b11 x11 y11 s11 t11 c12
  rw [HB.out]
  go_wp2_with fail
  refine (cmpLong_any _ _ _ _ _ _ _).mono ?_
  rintro e w13 ⟨rfl, c13⟩
  have b13 := onto b12 c13
  have x13 := x12.below c13
  have y13 := y12.below c13
  have s13 := s12.below c13
  have t13 := t12.below c13
  clear b12 x12 y12 s12 t12 c13
  rw [cmpL_parts, HO.out]
  have hx : ∀ w', (Op.equalIn 10000 30 (.agg #[.int .u64 (p0 V), .int .u64 (p1 V), .int .u64 (p2 V)]) (.agg #[.int .u64 (p0 V), .int .u64 (p1 V), .int .u64 (p2 V)])).run Try.prog w' = .ok true w' := fun w' => by
    rw [eq3]
    simp
  clear HA HB HO HV HT z0 ha hb
  obtain ⟨n0, n1⟩ := hn
  by_cases hz : n = 0
  · rw [if_pos hz]
    have d1 : decide (0 < n) = false := by simp [hz]
    clear hz n0 n1
    go_wp2_with fail
    refine (fixed_any _).mono ?_
    rintro e w14 ⟨rfl, c14⟩
    have b14 := onto b13 c14
    obtain ⟨_, x0, x1, x2⟩ := x13.below c14
    obtain ⟨_, y0, y1, y2⟩ := y13.below c14
    obtain ⟨_, s0, s1⟩ := s13.below c14
    obtain ⟨_, t0, t1⟩ := t13.below c14
    clear b13 x13 y13 s13 t13 c14
    go_wp2_with fail
    refine (cmpLong_any _ _ _ _ _ _ _).mono ?_
    rintro e w15 ⟨rfl, c15⟩
    have b15 := onto b14 c15
    rw [cmpL_parts, cmpI_eq rfl]
    have s0' := (c15.cell (block_in s0)).trans s0
    have s1' := (c15.cell (block_in s1)).trans s1
    have t0' := (c15.cell (block_in t0)).trans t0
    have t1' := (c15.cell (block_in t1)).trans t1
    clear b14 x0 x1 x2 y0 y1 y2 s0 s1 t0 t1 c15
    go_wp2_with fail
    go_ret
    exact ⟨rfl, b15⟩
  · rw [if_neg hz]
    have d1 : decide (0 < n) = true := by simp; omega
    clear hz n0 n1
    rcases Int.lt_trichotomy a b with k | k | k
    · rw [cmpI_lt k]
      go_wp2_with fail
      refine (fixed_any _).mono ?_
      rintro e w14 ⟨rfl, c14⟩
      have b14 := onto b13 c14
      obtain ⟨_, x0, x1, x2⟩ := x13.below c14
      obtain ⟨_, y0, y1, y2⟩ := y13.below c14
      obtain ⟨_, s0, s1⟩ := s13.below c14
      obtain ⟨_, t0, t1⟩ := t13.below c14
      clear b13 x13 y13 s13 t13 c14
      go_wp2_with fail
      refine (cmpLong_any _ _ _ _ _ _ _).mono ?_
      rintro e w15 ⟨rfl, c15⟩
      have b15 := onto b14 c15
      rw [cmpL_parts, cmpI_eq rfl]
      have s0' := (c15.cell (block_in s0)).trans s0
      have s1' := (c15.cell (block_in s1)).trans s1
      have t0' := (c15.cell (block_in t0)).trans t0
      have t1' := (c15.cell (block_in t1)).trans t1
      clear b14 x0 x1 x2 y0 y1 y2 s0 s1 t0 t1 c15
      go_wp2_with fail
      go_ret
      exact ⟨rfl, b15⟩
    · rw [cmpI_eq k]
      have d2 : decide (a < b) = false := by simp; omega
      have d3 : decide (b < a) = false := by simp; omega
      clear k
      go_wp2_with fail
      refine (fixed_any _).mono ?_
      rintro e w14 ⟨rfl, c14⟩
      have b14 := onto b13 c14
      obtain ⟨_, x0, x1, x2⟩ := x13.below c14
      obtain ⟨_, y0, y1, y2⟩ := y13.below c14
      obtain ⟨_, s0, s1⟩ := s13.below c14
      obtain ⟨_, t0, t1⟩ := t13.below c14
      clear b13 x13 y13 s13 t13 c14
      go_wp2_with fail
      refine (cmpLong_any _ _ _ _ _ _ _).mono ?_
      rintro e w15 ⟨rfl, c15⟩
      have b15 := onto b14 c15
      rw [cmpL_parts, cmpI_eq rfl]
      have s0' := (c15.cell (block_in s0)).trans s0
      have s1' := (c15.cell (block_in s1)).trans s1
      have t0' := (c15.cell (block_in t0)).trans t0
      have t1' := (c15.cell (block_in t1)).trans t1
      clear b14 x0 x1 x2 y0 y1 y2 s0 s1 t0 t1 c15
      go_wp2_with fail
      go_ret
      exact ⟨rfl, b15⟩
    · rw [cmpI_gt k]
      have d2 : decide (a < b) = false := by simp; omega
      go_wp2_with fail
      refine (fixed_any _).mono ?_
      rintro e w14 ⟨rfl, c14⟩
      have b14 := onto b13 c14
      obtain ⟨_, x0, x1, x2⟩ := x13.below c14
      obtain ⟨_, y0, y1, y2⟩ := y13.below c14
      obtain ⟨_, s0, s1⟩ := s13.below c14
      obtain ⟨_, t0, t1⟩ := t13.below c14
      clear b13 x13 y13 s13 t13 c14
      go_wp2_with fail
      refine (cmpLong_any _ _ _ _ _ _ _).mono ?_
      rintro e w15 ⟨rfl, c15⟩
      have b15 := onto b14 c15
      rw [cmpL_parts, cmpI_eq rfl]
      have s0' := (c15.cell (block_in s0)).trans s0
      have s1' := (c15.cell (block_in s1)).trans s1
      have t0' := (c15.cell (block_in t0)).trans t0
      have t1' := (c15.cell (block_in t1)).trans t1
      clear b14 x0 x1 x2 y0 y1 y2 s0 s1 t0 t1 c15
      go_wp2_with fail
      go_ret
      exact ⟨rfl, b15⟩
end Go.Proofs.Ytiagkkehemdkpaa
