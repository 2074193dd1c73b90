/-
  THE DOCUMENT'S OWN MIX: it answers the mix of x, and turns nothing. Condition: numbers of 64 bits.
-/
import Derived.Test.YtikdiaikggojjaaDoorNumRef
import Derived.Test.YtikdiaikggojjaaDoorRowu
namespace Go.Proofs.YtikdiaikggojjaaDoor
open Go.RowKit

/-- A number halved so often. -/
def halved (x : Int) (n : Nat) : Int := x / ((2 ^ n : Nat) : Int)
theorem halved_next {x y : Int} {k : Nat} (h : In64 y) (e : y = halved x k) : IntKind.u64.wrap (y.tdiv 2) = halved x (k + 1) := half_next h e
theorem halved_zero (x : Int) : x = halved x 0 := by simp [halved]

set_option maxHeartbeats 400000 in
theorem half_any (x : Int) (n : Nat) (w : World) (h0 : In64 x) (hn : n ≤ 64) :
    Calls Tryd.prog 22 #[.int .u64 x, .int .i64 n] w fun e w' => e = .returned (.int .u64 (halved x n)) ∧ w = w' := by
  go_enter Tryd.func22, Tryd.ntmps22
  go_wp2
  go_loop [0, 5] (fun z i => ∃ (k : Nat) (y : Int), k ≤ n ∧ In64 y ∧ Hid (y = halved x k) ∧ i = .int .i64 k ∧ z = .int .u64 y) (fun _ i => n - (intOf i).toNat)
  case atStart => exact ⟨0, x, Nat.zero_le _, h0, halved_zero x, rfl, rfl⟩
  case round =>
    obtain ⟨k, y, hk, hy, HY, rfl, rfl⟩ := hrel
    by_cases hlt : k < n
    · go_wp2
      go_round
      case rel => exact ⟨k + 1, _, by omega, wrap_in _, halved_next hy HY.out, by go_num, rfl⟩
      case measure => simp [intOf]; omega
    · have hkn : Hid (k = n) := by show k = n; omega
      go_wp2
      go_ret
      exact ⟨ret_int (by rw [HY.out, hkn.out]), rfl⟩

set_option maxHeartbeats 400000 in
theorem times_any (x y : Int) (w : World) (h0 : In64 y) :
    Calls Tryd.prog 21 #[.int .u64 x, .int .u64 y] w fun e w' => e = .returned (.int .u64 (IntKind.u64.wrap (x * y))) ∧ w = w' := by
  go_enter Tryd.func21, Tryd.ntmps21
  go_wp2
  go_loop [0, 1, 5] (fun a b s => ∃ (p q r : Int), 0 ≤ q ∧ In64 q ∧ In64 r ∧ Hid (IntKind.u64.wrap (r + p * q) = IntKind.u64.wrap (x * y)) ∧ a = .int .u64 p ∧ b = .int .u64 q ∧ s = .int .u64 r) (fun _ i _ => (intOf i).toNat)
  case atStart => exact ⟨x, y, 0, h0.1, h0, ⟨by decide, by decide⟩, by simp [Hid], rfl, rfl, rfl⟩
  case round =>
    obtain ⟨p, q, r, hq0, hq, hr, HY, rfl, rfl, rfl⟩ := hrel
    by_cases hlt : 0 < q
    · by_cases ho : q % 2 = 1
      · go_wp2
        go_round
        case rel => exact ⟨_, _, _, (wrap_in _).1, wrap_in _, wrap_in _, times_odd hq ho HY.out, rfl, rfl, rfl⟩
        case measure => exact half_less hq hlt
      · have ho' : q % 2 = 0 := by omega
        clear ho
        go_wp2
        go_round
        case rel => exact ⟨_, _, _, (wrap_in _).1, wrap_in _, hr, times_even hq ho' HY.out, rfl, rfl, rfl⟩
        case measure => exact half_less hq hlt
    · have hle : q ≤ 0 := by omega
      go_wp2
      go_ret
      exact ⟨ret_int (times_end hr hq hle HY.out), rfl⟩

theorem half30 (x : Int) (w : World) (h0 : In64 x) : Calls Tryd.prog 22 #[.int .u64 x, .int .i64 30] w fun e w' => e = .returned (.int .u64 (x / 1073741824)) ∧ w = w' := half_any x 30 w h0 (by decide)
theorem half27 (x : Int) (w : World) (h0 : In64 x) : Calls Tryd.prog 22 #[.int .u64 x, .int .i64 27] w fun e w' => e = .returned (.int .u64 (x / 134217728)) ∧ w = w' := half_any x 27 w h0 (by decide)
theorem half31 (x : Int) (w : World) (h0 : In64 x) : Calls Tryd.prog 22 #[.int .u64 x, .int .i64 31] w fun e w' => e = .returned (.int .u64 (x / 2147483648)) ∧ w = w' := half_any x 31 w h0 (by decide)

set_option maxHeartbeats 400000 in
theorem refMix_any (x : Int) (w : World) :
    Calls Tryd.prog 17 #[.int .u64 x] w fun e w' => e = .returned (.int .u64 (mixI x)) ∧ w = w' := by
  rw [← refMixI_eq]
  have K1 : In64 13787848793156543929 := ⟨by decide, by decide⟩
  have K2 : In64 10723151780598845931 := ⟨by decide, by decide⟩
  go_enter Tryd.func17, Tryd.ntmps17
  go_wp2_with fail
  refine (half30 _ _ (wrap_in _)).mono ?_
  rintro e w' ⟨rfl, rfl⟩
  go_wp2_with fail
  refine (times_any _ _ _ K1).mono ?_
  rintro e w' ⟨rfl, rfl⟩
  go_wp2_with fail
  refine (half27 _ _ (wrap_in _)).mono ?_
  rintro e w' ⟨rfl, rfl⟩
  go_wp2_with fail
  refine (times_any _ _ _ K2).mono ?_
  rintro e w' ⟨rfl, rfl⟩
  go_wp2_with fail
  refine (half31 _ _ (wrap_in _)).mono ?_
  rintro e w' ⟨rfl, rfl⟩
  go_wp2_with fail
  go_ret
  exact ⟨rfl, rfl⟩

end Go.Proofs.YtikdiaikggojjaaDoor
