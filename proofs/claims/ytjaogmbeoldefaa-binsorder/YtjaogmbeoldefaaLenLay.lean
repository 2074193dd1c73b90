/-
  THE LIBRARY's math/bits.Len, laid at this program: its bodies are the shelf's (the kernel compares them); and what it comes to. Condition: the number is of 64 bits.
-/
import Derived.Test.YtjaogmbeoldefaaRows
import Derived.Shelf.Small.Bits
import Derived.Sort.WalkA14
namespace Go.Proofs.Ytjaogmbeoldefaa
open Go.Shelf

def laysLen_ren : Go.Shelf.Ren := ⟨fun | 125 => 59 | 128 => 72 | 129 => 73 | n => n, fun | 3 => 3 | 4 => 4 | 5 => 5 | 9 => 9 | 46 => 95 | 51 => 106 | 53 => 69 | n => n, fun n => n⟩
theorem laysLen : Lays.n125 Try.prog laysLen_ren := {
  mixed := by kernel_rfl
  f125 := Try.func59.trans (congrArg some (by kernel_rfl))
  f128 := Try.func72.trans (congrArg some (by kernel_rfl))
  f129 := Try.func73.trans (congrArg some (by kernel_rfl))
  t3 := Try.underlying3
  a3 := Try.isAgg3
  z3 := Try.sizeOf3
  v3 := Try.zeroValue3
  t4 := Try.underlying4
  a4 := Try.isAgg4
  z4 := Try.sizeOf4
  v4 := Try.zeroValue4
  t5 := Try.underlying5
  a5 := Try.isAgg5
  z5 := Try.sizeOf5
  v5 := Try.zeroValue5
  t9 := Try.underlying9
  a9 := Try.isAgg9
  z9 := Try.sizeOf9
  v9 := Try.zeroValue9
  t46 := Try.underlying95
  a46 := Try.isAgg95
  z46 := Try.sizeOf95
  v46 := Try.zeroValue95
  t51 := Try.underlying106
  a51 := Try.isAgg106
  z51 := Try.sizeOf106
  v51 := Try.zeroValue106
  t53 := Try.underlying69
  a53 := Try.isAgg69
  z53 := Try.sizeOf69
  v53 := Try.zeroValue69 }

/-- How many bits a number has: a power of 2 stands just above it. -/
theorem len_any (n : Nat) (h : n < 18446744073709551616) (w : World) :
    Calls Try.prog 59 #[.int .u64 (n : Int)] w fun e w' => e = .returned (.int .i64 (Sort.bitsLen n : Nat)) ∧ w = w' := by
  refine (Any.bits_Len laysLen (n : Int) w (by omega) (by omega)).mono ?_
  rintro e w' ⟨rfl, rfl⟩
  refine ⟨?_, rfl⟩
  rw [Int.toNat_natCast, bitLen_eq n h]

theorem len_room (n : Nat) (h0 : 0 < n) : n < 2 ^ Sort.bitsLen n ∧ 2 ^ Sort.bitsLen n ≤ 2 * n := by
  unfold Sort.bitsLen
  rw [if_neg (by omega)]
  refine ⟨Nat.lt_log2_self, ?_⟩
  rw [Nat.pow_succ]
  have := Nat.log2_self_le (n := n) (by omega)
  omega

end Go.Proofs.Ytjaogmbeoldefaa
