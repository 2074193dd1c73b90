/-
  prod.Times, with the world that it leaves: six variables more. Condition: each number is of 64 bits.
-/
import Derived.Test.YtiagkkehemdkpaaLong
namespace Go.Proofs.Ytiagkkehemdkpaa
open Go.RowKit

set_option maxHeartbeats 1000000 in
theorem times_at (ah al n : Int) (h1 : Word ah) (h2 : Word al) (h3 : Word n) (w : World) :
    Calls Try.prog 10 #[.agg #[.int .u64 ah, .int .u64 al], .int .u64 n] w fun e w' =>
      e = .returned (.agg #[.int .u64 (p0 ((ah * 18446744073709551616 + al) * n)), .int .u64 (p1 ((ah * 18446744073709551616 + al) * n)), .int .u64 (p2 ((ah * 18446744073709551616 + al) * n))]) ∧ ∃ o1 o2 o3 o4 o5 o6 : Obj, w' = ((((((w.alloc o1).alloc o2).alloc o3).alloc o4).alloc o5).alloc o6).drew := by
  have e1 := hi_lo ah n
  have e2 := hi_lo al n
  have k1 := hi_small h1 h3
  have k2 := hi_word h1 h3
  have k3 := hi_word h2 h3
  have k4 := lo_word ah n
  have k5 := lo_word al n
  unfold Word at k2 k3 k4 k5
  have e3 : (ah * 18446744073709551616 + al) * n = ah * n * 18446744073709551616 + al * n := by rw [Int.add_mul, Int.mul_right_comm]
  have f0 : Hid (p0 ((ah * 18446744073709551616 + al) * n) = hi ah n + (lo ah n + hi al n) / 18446744073709551616) := by
    show _ = _; unfold p0; rw [e3]; omega
  have f1 : Hid (p1 ((ah * 18446744073709551616 + al) * n) = (lo ah n + hi al n) % 18446744073709551616) := by
    show _ = _; unfold p1; rw [e3]; omega
  have f2 : Hid (p2 ((ah * 18446744073709551616 + al) * n) = lo al n) := by
    show _ = _; unfold p2; rw [e3]; omega
  rw [f0.out, f1.out, f2.out]
  have g1 : 0 ≤ lo ah n := k4.1
  have g2 : 0 ≤ hi al n := k3.1
  have g3 : IntKind.u64.wrap (hi ah n + (lo ah n + hi al n) / 18446744073709551616) = hi ah n + (lo ah n + hi al n) / 18446744073709551616 := by rw [IntKind.wrap_u64]; omega
  clear e1 e2 e3 f0 f1 f2 k1 k2 k3 k4 k5
  go_enter Try.func10, Try.ntmps10
  go_wp2_with fail
  go_region_held3 (fun w' => w'.cell? ⟨w.heap.size, 0, none⟩ = some (.int .u64 ah) ∧ w'.cell? ⟨w.heap.size, 1, none⟩ = some (.int .u64 al)) (simp [go_sem, World.cell?_alloc_past])
    ((go_at_call 12; refine (mul_at _ _ (by assumption) h3 _).mono ?_; rintro e w' ⟨rfl, rfl⟩))
  all_goals
    go_wp2_with (simp only [add64_0 _ _ g1 g2])
    simp [bodyPost, results, Try.results10, go_sem]
    exact ⟨_, _, _, _, _, _, rfl⟩

end Go.Proofs.Ytiagkkehemdkpaa
