/-
  A number of 8 bits that came in. No condition.
-/
import Derived.Test.YtmhdhifdkcadaaaArgsN
namespace Go.Proofs.Ytmhdhifdkcadaaa
open Go.ChangeShapes Go.WideShapes Go.ChangeAt Go.RowKit

theorem in_u8 {z : Int} (h : (Lit.int .u8 z).wf = true) : 0 ≤ z ∧ z < 256 := by
  have := bounds_u8 h
  omega
end Go.Proofs.Ytmhdhifdkcadaaa
