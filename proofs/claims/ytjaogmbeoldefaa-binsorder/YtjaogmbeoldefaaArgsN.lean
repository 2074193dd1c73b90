/-
  THE GROUND OF THE ROWS over numbers of 64 bits: the program's own knobs, what lies laid out, a slice of numbers that came in. No condition.
-/
import Derived.Test.YtjaogmbeoldefaaArgsE
import Derived.Carry
namespace Go.Proofs.Ytjaogmbeoldefaa
open Go.ChangeShapes Go.WideShapes Go.ChangeAt Go.RowKit

theorem own : ownKnob Try.prog.godebug = none := by kernel_rfl
theorem laidOut : laidOutB Try.prog = true := by kernel_rfl
theorem open_nums {H : Type} {enc : TypeId × Value → H} {W : World} {sp : Nat → Bool} {held : Bool} {a : Option Addr} {len cap : Nat} {d : DataW H} {p : List MemPlace}
    (h : DataW.Trod enc Try.prog W 0 sp held 24 (.slice a len cap) d p) : ∃ l : List Int, l.length = len ∧ HoldsE KU W a l ∧ ∀ z ∈ l, 0 ≤ z ∧ z < 18446744073709551616 := open_row h
theorem to_nat {z : Int} (h : (Lit.int .u64 z).wf = true) : z.toNat < 18446744073709551616 := by
  have := in_u64 h
  omega
end Go.Proofs.Ytjaogmbeoldefaa
