/-
  LONG NUMBERS: Times and CmpLong of prod, as what they answer over whole numbers; the law's examples. Condition: each number is of 64 bits.
-/
import Derived.Test.YthfipbmmbhnhiaaDoorWide
import Derived.ChangeKeysEq
namespace Go.Proofs.YthfipbmmbhnhiaaDoor
open Go.RowKit

/-- The three parts of a long number. -/
def p0 (v : Int) : Int := v / 340282366920938463463374607431768211456
def p1 (v : Int) : Int := v / 18446744073709551616 % 18446744073709551616
def p2 (v : Int) : Int := v % 18446744073709551616

theorem six_below (w : World) (o1 o2 o3 o4 o5 o6 : Obj) : Below w.heap.size w ((((((w.alloc o1).alloc o2).alloc o3).alloc o4).alloc o5).alloc o6).drew := by
  have h := ((((((Below.refl _ w).alloc (Nat.le_refl _) o1).alloc (by simp) o2).alloc (by simp; omega) o3).alloc (by simp; omega) o4).alloc (by simp; omega) o5).alloc (by simp; omega) o6
  exact ⟨h.os, h.tape, h.output, h.size, h.block⟩

set_option maxHeartbeats 1000000 in
theorem times_any (ah al n : Int) (h1 : Word ah) (h2 : Word al) (h3 : Word n) (w : World) :
    Calls Tryd.prog 21 #[.agg #[.int .u64 ah, .int .u64 al], .int .u64 n] w fun e w' =>
      e = .returned (.agg #[.int .u64 (p0 ((ah * 18446744073709551616 + al) * n)), .int .u64 (p1 ((ah * 18446744073709551616 + al) * n)), .int .u64 (p2 ((ah * 18446744073709551616 + al) * n))]) ∧ Below w.heap.size w w' := by
  have e1 := hi_lo ah n
  have e2 := hi_lo al n
  have k1 := hi_small h1 h3
  have k2 := hi_word h1 h3
  have k3 := hi_word h2 h3
  have k4 := lo_word ah n
  have k5 := lo_word al n
  unfold Word at k2 k3 k4 k5
  have e3 : (ah * 18446744073709551616 + al) * n = ah * n * 18446744073709551616 + al * n := by rw [Int.add_mul, Int.mul_right_comm]
  have f0 : Hid (p0 ((ah * 18446744073709551616 + al) * n) = hi ah n + (lo ah n + hi al n) / 18446744073709551616) := by
    show _ = _; unfold p0; rw [e3]; omega
  have f1 : Hid (p1 ((ah * 18446744073709551616 + al) * n) = (lo ah n + hi al n) % 18446744073709551616) := by
    show _ = _; unfold p1; rw [e3]; omega
  have f2 : Hid (p2 ((ah * 18446744073709551616 + al) * n) = lo al n) := by
    show _ = _; unfold p2; rw [e3]; omega
  rw [f0.out, f1.out, f2.out]
  have g1 : 0 ≤ lo ah n := k4.1
  have g2 : 0 ≤ hi al n := k3.1
  have g3 : IntKind.u64.wrap (hi ah n + (lo ah n + hi al n) / 18446744073709551616) = hi ah n + (lo ah n + hi al n) / 18446744073709551616 := by rw [IntKind.wrap_u64]; omega
  clear e1 e2 e3 f0 f1 f2 k1 k2 k3 k4 k5
  go_enter Tryd.func21, Tryd.ntmps21
  go_wp2_with fail
  go_region_held3 (fun w' => w'.cell? ⟨w.heap.size, 0, none⟩ = some (.int .u64 ah) ∧ w'.cell? ⟨w.heap.size, 1, none⟩ = some (.int .u64 al)) (simp [go_sem, World.cell?_alloc_past])
    ((go_at_call 33; refine (mul_at _ _ (by assumption) h3 _).mono ?_; rintro e w' ⟨rfl, rfl⟩))
  all_goals
    go_wp2_with (simp only [add64_0 _ _ g1 g2])
    simp [bodyPost, results, Tryd.results21, go_sem]
    exact six_below _ _ _ _ _ _ _

theorem part3 (w : World) (x0 x1 x2 : Int) : (part 22 #[.int .u64 x0, .int .u64 x1, .int .u64 x2] 0).run Tryd.prog w = .ok (.int .u64 x0) w ∧ (part 22 #[.int .u64 x0, .int .u64 x1, .int .u64 x2] 1).run Tryd.prog w = .ok (.int .u64 x1) w ∧ (part 22 #[.int .u64 x0, .int .u64 x1, .int .u64 x2] 2).run Tryd.prog w = .ok (.int .u64 x2) w :=
  ⟨run_part_plain w (by kernel_rfl) rfl, run_part_plain w (by kernel_rfl) rfl, run_part_plain w (by kernel_rfl) rfl⟩

/-- Two long numbers, held against one another as a whole. -/
theorem eq3 (w : World) (a0 a1 a2 b0 b1 b2 : Int) : (Op.equalIn 10000 46 (.agg #[.int .u64 a0, .int .u64 a1, .int .u64 a2]) (.agg #[.int .u64 b0, .int .u64 b1, .int .u64 b2])).run Tryd.prog w = .ok (a0 == b0 && (a1 == b1 && a2 == b2)) w := by
  obtain ⟨i0, hi⟩ : ∃ i, Tryd.prog.info? 22 = some i := Option.isSome_iff_exists.1 (by kernel_rfl)
  have hc : Tryd.prog.cellsOf 22 = 1 := by kernel_rfl
  rw [run_equalIn_array w 9999 _ _ Tryd.underlying46 hi, hc, show List.range 3 = [0, 1, 2] from rfl]
  have f : ∀ (w : World) (a b : Int), (Op.equalIn 9999 22 (.int .u64 a) (.int .u64 b)).run Tryd.prog w = .ok (a == b) w := fun w a b => run_equalIn_int (P := Tryd.prog) w 9998 22 .u64 .u64 a b Tryd.underlying22
  have p0 := fun x y z => (part3 w x y z).1
  have p1 := fun x y z => (part3 w x y z).2.1
  have p2 := fun x y z => (part3 w x y z).2.2
  by_cases h0 : a0 = b0 <;> by_cases h1 : a1 = b1 <;> by_cases h2 : a2 = b2 <;> simp [Op.eqItems, Sem.run_bind, p0, p1, p2, f, h0, h1, h2]

/-- Three parts held against three. -/
def cmpL (a0 a1 a2 b0 b1 b2 : Int) : Int := if a0 = b0 then if a1 = b1 then cmpI a2 b2 else cmpI a1 b1 else cmpI a0 b0

theorem fetch3 {w : World} {b m : Nat} {x0 x1 x2 : Int} (hm : m ≤ 2) (h0 : w.cell? ⟨b, 0, none⟩ = some (.int .u64 x0)) (h1 : w.cell? ⟨b, 1, none⟩ = some (.int .u64 x1)) (h2 : w.cell? ⟨b, 2, none⟩ = some (.int .u64 x2)) :
    w.cell? ⟨b, m, none⟩ = some (.int .u64 ([x0, x1, x2].getD m 0)) := by
  match m, hm with
  | 0, _ => exact h0
  | 1, _ => exact h1
  | 2, _ => exact h2

set_option maxHeartbeats 1000000 in
theorem cmpLong_at (a0 a1 a2 b0 b1 b2 : Int) (m : Nat) (hm : m ≤ 2) (ht : ∀ t, t < m → [a0, a1, a2].getD t 0 = [b0, b1, b2].getD t 0) (hne : [a0, a1, a2].getD m 0 ≠ [b0, b1, b2].getD m 0) (w : World) :
    Calls Tryd.prog 20 #[.agg #[.int .u64 a0, .int .u64 a1, .int .u64 a2], .agg #[.int .u64 b0, .int .u64 b1, .int .u64 b2]] w fun e w' =>
      e = .returned (.int .i64 (cmpI ([a0, a1, a2].getD m 0) ([b0, b1, b2].getD m 0))) ∧ Below w.heap.size w w' := by
  have hx : ∀ w', (Op.equalIn 10000 46 (.agg #[.int .u64 a0, .int .u64 a1, .int .u64 a2]) (.agg #[.int .u64 b0, .int .u64 b1, .int .u64 b2])).run Tryd.prog w' = .ok false w' := fun w' => by
    rw [eq3]
    congr 1
    match m, hm with
    | 0, _ => have h : ¬ a0 = b0 := hne; simp [h]
    | 1, _ => have h : ¬ a1 = b1 := hne; simp [h]
    | 2, _ => have h : ¬ a2 = b2 := hne; simp [h]
  have hb : Below w.heap.size w ((w.alloc (.cells #[.int .u64 a0, .int .u64 a1, .int .u64 a2] 46)).alloc (.cells #[.int .u64 b0, .int .u64 b1, .int .u64 b2] 46)) := ((Below.refl _ w).alloc (Nat.le_refl _) _).alloc (by simp) _
  have HT := Lib.hid ht
  have HN := Lib.hid hne
  have HB := Lib.hid hb
  clear ht hne hb
  go_enter Tryd.func20, Tryd.ntmps20
  go_wp2_with (simp only [hx])
  go_loopw [5] (fun i wr => ∃ j : Nat, j ≤ m ∧ i = .int .i64 j ∧ Below w.heap.size w wr ∧ (∀ t, t ≤ 2 → wr.cell? ⟨w.heap.size, t, none⟩ = some (.int .u64 ([a0, a1, a2].getD t 0))) ∧ (∀ t, t ≤ 2 → wr.cell? ⟨w.heap.size + 1, t, none⟩ = some (.int .u64 ([b0, b1, b2].getD t 0)))) (fun i _ => m - (intOf i).toNat)
  case atStart => exact ⟨0, by omega, rfl, HB.out, fun t ht => fetch3 ht (by simp [World.cell?_alloc_past]) (by simp [World.cell?_alloc_past]) (by simp [World.cell?_alloc_past]), fun t ht => fetch3 ht (by simp) (by simp) (by simp)⟩
  case round =>
    obtain ⟨j, hj, rfl, hB, hA, hC⟩ := hrel
    have c1 := hA j (by omega)
    have c2 := hC j (by omega)
    have hj2 : j ≤ 2 := by omega
    have hlt : (j : Int) < 3 := by omega
    have HBn : Hid (∀ n, Below w.heap.size w (wr.drewN n)) := fun n => ⟨hB.os, hB.tape, hB.output, hB.size, hB.block⟩
    have HA2 : Hid (∀ n, ∀ t, t ≤ 2 → (wr.drewN n).cell? ⟨w.heap.size, t, none⟩ = some (.int .u64 ([a0, a1, a2].getD t 0))) := fun n => hA
    have HC2 : Hid (∀ n, ∀ t, t ≤ 2 → (wr.drewN n).cell? ⟨w.heap.size + 1, t, none⟩ = some (.int .u64 ([b0, b1, b2].getD t 0))) := fun n => hC
    by_cases hlm : j < m
    · have heq := HT.out j hlm
      rw [heq] at c1
      generalize [b0, b1, b2].getD j 0 = y at c1 c2
      clear hA hC hB heq
      go_wp2_with fail
      go_quiet (fail)
      go_wp2_with fail
      go_roundw
      case rel => exact ⟨j + 1, by omega, by go_num, HBn.out _, HA2.out _, HC2.out _⟩
      case measure => simp [intOf]; omega
    · have hjm : j = m := by omega
      subst hjm
      have HN2 := HN.out
      obtain ⟨x, HX⟩ : ∃ x, Hid ([a0, a1, a2].getD j 0 = x) := ⟨_, rfl⟩
      obtain ⟨y, HY⟩ : ∃ y, Hid ([b0, b1, b2].getD j 0 = y) := ⟨_, rfl⟩
      rw [HX.out] at c1 HN2
      rw [HY.out] at c2 HN2
      clear hA hC hB
      have hd : (x == y) = false := by simpa using HN2
      go_wp2_with fail
      go_quiet (fail)
      have d1 : (wr.drewN nq).cell? ⟨w.heap.size, j, none⟩ = some (.int .u64 x) := c1
      have d2 : (wr.drewN nq).cell? ⟨w.heap.size + 1, j, none⟩ = some (.int .u64 y) := c2
      have HB5 := Lib.hid (HBn.out nq)
      generalize wr.drewN nq = w5 at *
      clear c1 c2 HBn HA2 HC2
      go_wp2_with fail
      go_quiet ((go_at_call 32; exact Calls.quiet_of_same ((compare_any _ _ _).mono fun _ _ h => ⟨h.1, h.2.symm⟩)))
      go_wp2_with fail
      go_ret
      have h5 := HB5.out
      exact ⟨by rw [HX.out, HY.out]; rfl, ⟨h5.os, h5.tape, h5.output, h5.size, h5.block⟩⟩

theorem cmpLong_any (a0 a1 a2 b0 b1 b2 : Int) (w : World) :
    Calls Tryd.prog 20 #[.agg #[.int .u64 a0, .int .u64 a1, .int .u64 a2], .agg #[.int .u64 b0, .int .u64 b1, .int .u64 b2]] w fun e w' =>
      e = .returned (.int .i64 (cmpL a0 a1 a2 b0 b1 b2)) ∧ Below w.heap.size w w' := by
  unfold cmpL
  by_cases h0 : a0 = b0
  · rw [if_pos h0]
    by_cases h1 : a1 = b1
    · rw [if_pos h1]
      by_cases h2 : a2 = b2
      · have hx : ∀ w', (Op.equalIn 10000 46 (.agg #[.int .u64 a0, .int .u64 a1, .int .u64 a2]) (.agg #[.int .u64 b0, .int .u64 b1, .int .u64 b2])).run Tryd.prog w' = .ok true w' := fun w' => by
          rw [eq3]
          simp [h0, h1, h2]
        have HC := Lib.hid (cmpI_eq h2)
        clear h0 h1 h2
        go_enter Tryd.func20, Tryd.ntmps20
        go_wp2_with (simp only [hx])
        go_ret
        exact ⟨by rw [HC.out]; rfl, ((Below.refl _ w).alloc (Nat.le_refl _) _).alloc (by simp) _⟩
      · exact cmpLong_at a0 a1 a2 b0 b1 b2 2 (by omega) (fun t ht => by
          match t, ht with
          | 0, _ => exact h0
          | 1, _ => exact h1) h2 w
    · rw [if_neg h1]
      exact cmpLong_at a0 a1 a2 b0 b1 b2 1 (by omega) (fun t ht => by
        match t, ht with
        | 0, _ => exact h0) h1 w
  · rw [if_neg h0]
    exact cmpLong_at a0 a1 a2 b0 b1 b2 0 (by omega) (fun t ht => by omega) h0 w

/-- Parts stand as the numbers stand. -/
theorem cmpL_parts (u v : Int) : cmpL (p0 u) (p1 u) (p2 u) (p0 v) (p1 v) (p2 v) = cmpI u v := by
  unfold cmpL p0 p1 p2
  split
  · split
    · rcases Int.lt_trichotomy u v with h | h | h
      · rw [cmpI_lt h, cmpI_lt (by omega)]
      · rw [cmpI_eq h, cmpI_eq (by omega)]
      · rw [cmpI_gt h, cmpI_gt (by omega)]
    · rcases Int.lt_trichotomy u v with h | h | h
      · rw [cmpI_lt h, cmpI_lt (by omega)]
      · omega
      · rw [cmpI_gt h, cmpI_gt (by omega)]
  · rcases Int.lt_trichotomy u v with h | h | h
    · rw [cmpI_lt h, cmpI_lt (by omega)]
    · subst h; omega
    · rw [cmpI_gt h, cmpI_gt (by omega)]

end Go.Proofs.YthfipbmmbhnhiaaDoor
