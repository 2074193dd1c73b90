/-
  THE DOCUMENT'S COMPARISON of rows of digits, and of long numbers place by place. Condition: digits, as many of each.
-/
import Derived.Test.YtebdlmjpgohngaaDigRow
namespace Go.Proofs.Ytebdlmjpgohngaa
open Go.RowKit

theorem drawn {B : Nat} {w0 w : World} (h : Below B w0 w) (n : Nat) : Below B w0 (w.drewN n) := ⟨h.os, h.tape, h.output, h.size, h.block⟩

end Go.Proofs.Ytebdlmjpgohngaa
