/-
  THE LIBRARY's math/bits.Len, laid at this program: its bodies are the shelf's (the kernel compares them); and what it comes to. Condition: the number is of 64 bits.
-/
import Derived.Test.YtmhdhifdkcadaaaRows
import Derived.Shelf.Small.Bits
import Derived.Sort.WalkA14
namespace Go.Proofs.Ytmhdhifdkcadaaa
open Go.Shelf

def laysLen_ren : Go.Shelf.Ren := ⟨fun | 125 => 40 | 128 => 52 | 129 => 53 | n => n, fun | 3 => 3 | 4 => 4 | 5 => 5 | 9 => 9 | 46 => 55 | 51 => 68 | 53 => 30 | n => n, fun n => n⟩
theorem laysLen : Lays.n125 Try.prog laysLen_ren := {
  mixed := by kernel_rfl
  f125 := Try.func40.trans (congrArg some (by kernel_rfl))
  f128 := Try.func52.trans (congrArg some (by kernel_rfl))
  f129 := Try.func53.trans (congrArg some (by kernel_rfl))
  t3 := Try.underlying3
  a3 := Try.isAgg3
  z3 := Try.sizeOf3
  v3 := Try.zeroValue3
  t4 := Try.underlying4
  a4 := Try.isAgg4
  z4 := Try.sizeOf4
  v4 := Try.zeroValue4
  t5 := Try.underlying5
  a5 := Try.isAgg5
  z5 := Try.sizeOf5
  v5 := Try.zeroValue5
  t9 := Try.underlying9
  a9 := Try.isAgg9
  z9 := Try.sizeOf9
  v9 := Try.zeroValue9
  t46 := Try.underlying55
  a46 := Try.isAgg55
  z46 := Try.sizeOf55
  v46 := Try.zeroValue55
  t51 := Try.underlying68
  a51 := Try.isAgg68
  z51 := Try.sizeOf68
  v51 := Try.zeroValue68
  t53 := Try.underlying30
  a53 := Try.isAgg30
  z53 := Try.sizeOf30
  v53 := Try.zeroValue30 }

/-- How many bits a number has: a power of 2 stands just above it. -/
theorem len_any (n : Nat) (h : n < 18446744073709551616) (w : World) :
    Calls Try.prog 40 #[.int .u64 (n : Int)] w fun e w' => e = .returned (.int .i64 (Sort.bitsLen n : Nat)) ∧ w = w' := by
  refine (Any.bits_Len laysLen (n : Int) w (by omega) (by omega)).mono ?_
  rintro e w' ⟨rfl, rfl⟩
  refine ⟨?_, rfl⟩
  rw [Int.toNat_natCast, bitLen_eq n h]

theorem len_room (n : Nat) (h0 : 0 < n) : n < 2 ^ Sort.bitsLen n ∧ 2 ^ Sort.bitsLen n ≤ 2 * n := by
  unfold Sort.bitsLen
  rw [if_neg (by omega)]
  refine ⟨Nat.lt_log2_self, ?_⟩
  rw [Nat.pow_succ]
  have := Nat.log2_self_le (n := n) (by omega)
  omega

end Go.Proofs.Ytmhdhifdkcadaaa
