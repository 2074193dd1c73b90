/-
  THE DOCUMENT'S OWN FOLD: of the numbers that a slice holds it answers their fold, and turns nothing. Condition: up to 1000 numbers.
-/
import Derived.Test.YtikdiaikggojjaaDoorRefMix
import Derived.Test.YtikdiaikggojjaaDoorFold
namespace Go.Proofs.YtikdiaikggojjaaDoor
open Go.RowKit

set_option maxHeartbeats 400000 in
theorem refFold_none (a : Option Addr) (cap : Nat) (w : World) :
    Calls Tryd.prog 15 #[.slice a 0 cap] w fun e w' => e = .returned (.int .u64 0) ∧ w = w' := by
  go_enter Tryd.func15, Tryd.ntmps15
  go_wp2
  refine wp_loop_rounds 1 ?_
  rw [rounds_succ]; go_wp2
  go_ret
  exact ⟨rfl, rfl⟩

set_option maxHeartbeats 400000 in
theorem refFold_some (b off cap n : Nat) (zs : List Int) (w : World) (hn : n ≤ 1000) (hz : zs.length = n) (hr : Row w b off zs) :
    Calls Tryd.prog 15 #[.slice (some ⟨b, off, none⟩) n cap] w fun e w' => e = .returned (.int .u64 (foldI zs)) ∧ w = w' := by
  have HZ := Lib.hid hz; clear hz
  have z0 := foldTo_zero zs
  have Z0 := Lib.hid z0; clear z0
  go_enter Tryd.func15, Tryd.ntmps15
  go_wp2
  go_loop [3, 4] (fun s i => ∃ (k : Nat) (y : Int), k ≤ n ∧ Hid (y = foldTo zs k) ∧ i = .int .i64 k ∧ s = .int .u64 y) (fun _ i => n - (intOf i).toNat)
  case atStart => exact ⟨0, 0, Nat.zero_le _, Z0.out.symm, rfl, rfl⟩
  case round =>
    obtain ⟨k, y, hk, HY, rfl, rfl⟩ := hrel
    by_cases hlt : k < n
    · obtain ⟨z, HE⟩ : ∃ z, Hid (z = zs.getD k 0) := ⟨_, rfl⟩
      have hc : w.cell? ⟨b, off + k, none⟩ = some (.int .u64 z) := by rw [HE.out]; exact hr k (by rw [HZ.out]; exact hlt)
      go_wp2_with fail
      refine (refMix_any _ _).mono ?_
      rintro e w' ⟨rfl, rfl⟩
      go_wp2_with fail
      go_round
      case rel => exact ⟨k + 1, _, by omega, by rw [HY.out]; exact foldTo_next zs k z (by rw [HZ.out]; exact hlt) HE.out, by go_num, rfl⟩
      case measure => simp [intOf]; omega
    · have hkn : Hid (k = n) := by show k = n; omega
      go_wp2
      go_ret
      exact ⟨ret_int (by rw [HY.out, hkn.out, ← HZ.out, foldTo_all]), rfl⟩

theorem refFold_any (a : Option Addr) (cap n : Nat) (l : List Int) (w : World) (hn : n ≤ 1000) (hl : l.length = n) (hr : HoldsRow w a l) :
    Calls Tryd.prog 15 #[.slice a n cap] w fun e w' => e = .returned (.int .u64 (foldI l)) ∧ w = w' := by
  rcases hr with rfl | ⟨b, off, rfl, hb, hr⟩
  · obtain rfl : n = 0 := hl.symm
    exact refFold_none a cap w
  · exact refFold_some b off cap n l w hn hl hr
end Go.Proofs.YtikdiaikggojjaaDoor
