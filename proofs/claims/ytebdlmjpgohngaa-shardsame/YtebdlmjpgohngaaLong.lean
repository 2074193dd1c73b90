/-
  LONG NUMBERS: Times and CmpLong of prod, as what they answer over whole numbers; the law's examples. Condition: each number is of 64 bits.
-/
import Derived.Test.YtebdlmjpgohngaaWide
import Derived.ChangeKeysEq
namespace Go.Proofs.Ytebdlmjpgohngaa
open Go.RowKit

/-- The three parts of a long number. -/
def p0 (v : Int) : Int := v / 340282366920938463463374607431768211456
def p1 (v : Int) : Int := v / 18446744073709551616 % 18446744073709551616
def p2 (v : Int) : Int := v % 18446744073709551616

theorem six_below (w : World) (o1 o2 o3 o4 o5 o6 : Obj) : Below w.heap.size w ((((((w.alloc o1).alloc o2).alloc o3).alloc o4).alloc o5).alloc o6).drew := by
  have h := ((((((Below.refl _ w).alloc (Nat.le_refl _) o1).alloc (by simp) o2).alloc (by simp; omega) o3).alloc (by simp; omega) o4).alloc (by simp; omega) o5).alloc (by simp; omega) o6
  exact ⟨h.os, h.tape, h.output, h.size, h.block⟩

theorem part3 (w : World) (x0 x1 x2 : Int) : (part 99 #[.int .u64 x0, .int .u64 x1, .int .u64 x2] 0).run Try.prog w = .ok (.int .u64 x0) w ∧ (part 99 #[.int .u64 x0, .int .u64 x1, .int .u64 x2] 1).run Try.prog w = .ok (.int .u64 x1) w ∧ (part 99 #[.int .u64 x0, .int .u64 x1, .int .u64 x2] 2).run Try.prog w = .ok (.int .u64 x2) w :=
  ⟨run_part_plain w (by kernel_rfl) rfl, run_part_plain w (by kernel_rfl) rfl, run_part_plain w (by kernel_rfl) rfl⟩

/-- Three parts held against three. -/
def cmpL (a0 a1 a2 b0 b1 b2 : Int) : Int := if a0 = b0 then if a1 = b1 then cmpI a2 b2 else cmpI a1 b1 else cmpI a0 b0

theorem fetch3 {w : World} {b m : Nat} {x0 x1 x2 : Int} (hm : m ≤ 2) (h0 : w.cell? ⟨b, 0, none⟩ = some (.int .u64 x0)) (h1 : w.cell? ⟨b, 1, none⟩ = some (.int .u64 x1)) (h2 : w.cell? ⟨b, 2, none⟩ = some (.int .u64 x2)) :
    w.cell? ⟨b, m, none⟩ = some (.int .u64 ([x0, x1, x2].getD m 0)) := by
  match m, hm with
  | 0, _ => exact h0
  | 1, _ => exact h1
  | 2, _ => exact h2

/-- Parts stand as the numbers stand. -/
theorem cmpL_parts (u v : Int) : cmpL (p0 u) (p1 u) (p2 u) (p0 v) (p1 v) (p2 v) = cmpI u v := by
  unfold cmpL p0 p1 p2
  split
  · split
    · rcases Int.lt_trichotomy u v with h | h | h
      · rw [cmpI_lt h, cmpI_lt (by omega)]
      · rw [cmpI_eq h, cmpI_eq (by omega)]
      · rw [cmpI_gt h, cmpI_gt (by omega)]
    · rcases Int.lt_trichotomy u v with h | h | h
      · rw [cmpI_lt h, cmpI_lt (by omega)]
      · omega
      · rw [cmpI_gt h, cmpI_gt (by omega)]
  · rcases Int.lt_trichotomy u v with h | h | h
    · rw [cmpI_lt h, cmpI_lt (by omega)]
    · subst h; omega
    · rw [cmpI_gt h, cmpI_gt (by omega)]

end Go.Proofs.Ytebdlmjpgohngaa
