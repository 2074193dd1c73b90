/-
  No cell of these rows narrows 'for every input' (looked for: loops, veiled, ifaces, maps, wideKeys, modest, calm, conditions, laid).
  DERIVED. THE GIVEN ROWS OF THIS SEAT. 4 by the template 'for every input the law returns true; each argument reads behind the call as it read before'; 0 by the template 'total and deterministic' (their statements: YtodejnligocadaaTotals.lean).
  GIVEN WITH THE SEED: the statements are not yours to turn. If you find one false, say at which input.
  Laid BY PROGRAM, IN A SANDBOX (cutbox-rows.mjs): the forced cells as the released guide's own fill.sh prints them over the translation 9676e93c6d11e82f… (all of the seat's roots in one cut). By AI agents, Wed Nov 11 2026. No macro, syntax, notation, axiom, sorry.
-/
import Derived.Test.YtodejnligocadaaChecked
import GoSem.Claim
import GoSem.ClaimJoined
import GoSem.ClaimMapViews
import Derived.JoinedTies
import Derived.KernelRfl
namespace Go.Proofs.Ytodejnligocadaa
/- THE CELL 'sum', in the pinned program and in every row, IS THE sha256 OF THE DUMP (.gsa) THAT YtodejnligocadaaProg.lean LOADS. Nothing in Lean hashes anything: it is a label: what it is worth is what the hold of that sum in a sandbox is worth. -/
noncomputable def Try.pinned : Pinned := { name := "ytodejnligocadaa", sum := "9676e93c6d11e82f22118abb4f63f256bee08798b24c1b6a2255eaad12c90ddf", checked := Try.checked }
namespace Rows
def none {H : Type} : Left H := { results := [], args := [] }

/-- 'hornbeamlaw08.ConfigChecks': WHATEVER THE INPUT: true; the input reads as it did. -/
def configChecksSpec : ChangeSpec := { name := "configChecks", fn := fun _ => fun
  | [d1, d2] => { results := [.lit (.bool true)], args := [d1, d2] }
  | _ => none }
def configChecksRow : OpenClaim := { program := "ytodejnligocadaa", sum := "9676e93c6d11e82f22118abb4f63f256bee08798b24c1b6a2255eaad12c90ddf", func := "hornbeam/hornbeamlaw08.ConfigChecks", spec := "configChecks", unfollowed := true, recurses := true, apart := false }
def ConfigChecksSaid : Prop := configChecksRow.holds Try.pinned (OpenSpec.ofChange configChecksSpec)

/-- ITS FALSE NEIGHBOUR: 'it returns false'. Refute it at one input. -/
def configChecksWrong : ChangeSpec := { name := "configChecks", fn := fun _ => fun
  | [d1, d2] => { results := [.lit (.bool false)], args := [d1, d2] }
  | _ => none }
def ConfigChecksWrongFalsely : Prop := configChecksRow.holds Try.pinned (OpenSpec.ofChange configChecksWrong)

/-- 'hornbeamlaw08.ConfigTakes': WHATEVER THE INPUT: true; the input reads as it did. -/
def configTakesSpec : ChangeSpec := { name := "configTakes", fn := fun _ => fun
  | [d] => { results := [.lit (.bool true)], args := [d] }
  | _ => none }
def configTakesRow : OpenClaim := { program := "ytodejnligocadaa", sum := "9676e93c6d11e82f22118abb4f63f256bee08798b24c1b6a2255eaad12c90ddf", func := "hornbeam/hornbeamlaw08.ConfigTakes", spec := "configTakes", unfollowed := true, recurses := true, apart := false }
def ConfigTakesSaid : Prop := configTakesRow.holds Try.pinned (OpenSpec.ofChange configTakesSpec)

/-- ITS FALSE NEIGHBOUR: 'it returns false'. Refute it at one input. -/
def configTakesWrong : ChangeSpec := { name := "configTakes", fn := fun _ => fun
  | [d] => { results := [.lit (.bool false)], args := [d] }
  | _ => none }
def ConfigTakesWrongFalsely : Prop := configTakesRow.holds Try.pinned (OpenSpec.ofChange configTakesWrong)

/-- 'hornbeamlaw08.ConfigEnds': WHATEVER THE INPUT: true; the input reads as it did. -/
def configEndsSpec : ChangeSpec := { name := "configEnds", fn := fun _ => fun
  | [d1, d2] => { results := [.lit (.bool true)], args := [d1, d2] }
  | _ => none }
def configEndsRow : OpenClaim := { program := "ytodejnligocadaa", sum := "9676e93c6d11e82f22118abb4f63f256bee08798b24c1b6a2255eaad12c90ddf", func := "hornbeam/hornbeamlaw08.ConfigEnds", spec := "configEnds", apart := false }
def ConfigEndsSaid : Prop := configEndsRow.holds Try.pinned (OpenSpec.ofChange configEndsSpec)

/-- ITS FALSE NEIGHBOUR: 'it returns false'. Refute it at one input. -/
def configEndsWrong : ChangeSpec := { name := "configEnds", fn := fun _ => fun
  | [d1, d2] => { results := [.lit (.bool false)], args := [d1, d2] }
  | _ => none }
def ConfigEndsWrongFalsely : Prop := configEndsRow.holds Try.pinned (OpenSpec.ofChange configEndsWrong)

/-- 'hornbeamlaw08.ConfigFirst': WHATEVER THE INPUT: true; the input reads as it did. -/
def configFirstSpec : ChangeSpec := { name := "configFirst", fn := fun _ => fun
  | [d1, d2] => { results := [.lit (.bool true)], args := [d1, d2] }
  | _ => none }
def configFirstRow : OpenClaim := { program := "ytodejnligocadaa", sum := "9676e93c6d11e82f22118abb4f63f256bee08798b24c1b6a2255eaad12c90ddf", func := "hornbeam/hornbeamlaw08.ConfigFirst", spec := "configFirst", apart := false }
def ConfigFirstSaid : Prop := configFirstRow.holds Try.pinned (OpenSpec.ofChange configFirstSpec)

/-- ITS FALSE NEIGHBOUR: 'it returns false'. Refute it at one input. -/
def configFirstWrong : ChangeSpec := { name := "configFirst", fn := fun _ => fun
  | [d1, d2] => { results := [.lit (.bool false)], args := [d1, d2] }
  | _ => none }
def ConfigFirstWrongFalsely : Prop := configFirstRow.holds Try.pinned (OpenSpec.ofChange configFirstWrong)

/- THE SECOND FORM. 'bulk': how many values and letters a reading holds, each counted each time it is reached (what is shared counts as often as it is met; a slice's spare places count too). A statement '..UptoSaid' is the law's where the arguments, and the package variables that the reading takes, are together of bulk at most 1048576: NARROWER than '..Said'. Prove '..Said' where nothing that the law and all that it calls make is longer than what came in: it says more and counts as full. Else prove '..UptoSaid'. A law counts once. -/
mutual
def uptoBulk {H : Type} : DataW H → Nat
  | .lit (.string bytes) => bytes.length + 1
  | .lit _ => 1
  | .nil => 1
  | .ptr d => uptoBulk d + 1
  | .slice elems spare => uptoBulkAll elems + uptoBulkAll spare + 1
  | .agg parts => uptoBulkAll parts + 1
  | .iface _ d => uptoBulk d + 1
  | .map entries => uptoBulkEntries entries + 1
  | .held _ => 1
def uptoBulkAll {H : Type} : List (DataW H) → Nat
  | [] => 0
  | d :: r => uptoBulk d + uptoBulkAll r
def uptoBulkEntries {H : Type} : List (Lit × DataW H) → Nat
  | [] => 0
  | x :: r => uptoBulkEntry x + uptoBulkEntries r
def uptoBulkEntry {H : Type} : Lit × DataW H → Nat
  | (.string bytes, d) => bytes.length + uptoBulk d + 1
  | (_, d) => uptoBulk d + 1
 end
def uptoSmall : (H : Type) → List (DataW H) → Bool := fun _ ds => decide (uptoBulkAll ds ≤ 1048576)
def OpenSpec.upto (s : _root_.Go.ChangeSpec) : _root_.Go.OpenSpec := { _root_.Go.OpenSpec.ofChange s with cond := some uptoSmall }

/-- 'hornbeamlaw08.ConfigChecks', WHERE WHAT IT READS IS OF BULK AT MOST 1048576: true; the input reads as it did. -/
def configChecksUptoRow : OpenClaim := { program := "ytodejnligocadaa", sum := "9676e93c6d11e82f22118abb4f63f256bee08798b24c1b6a2255eaad12c90ddf", func := "hornbeam/hornbeamlaw08.ConfigChecks", spec := "configChecks", unfollowed := true, recurses := true, apart := false, narrowed := true }
def ConfigChecksUptoSaid : Prop := configChecksUptoRow.holds Try.pinned (OpenSpec.upto configChecksSpec)

/-- 'hornbeamlaw08.ConfigTakes', WHERE WHAT IT READS IS OF BULK AT MOST 1048576: true; the input reads as it did. -/
def configTakesUptoRow : OpenClaim := { program := "ytodejnligocadaa", sum := "9676e93c6d11e82f22118abb4f63f256bee08798b24c1b6a2255eaad12c90ddf", func := "hornbeam/hornbeamlaw08.ConfigTakes", spec := "configTakes", unfollowed := true, recurses := true, apart := false, narrowed := true }
def ConfigTakesUptoSaid : Prop := configTakesUptoRow.holds Try.pinned (OpenSpec.upto configTakesSpec)

/-- 'hornbeamlaw08.ConfigEnds', WHERE WHAT IT READS IS OF BULK AT MOST 1048576: true; the input reads as it did. -/
def configEndsUptoRow : OpenClaim := { program := "ytodejnligocadaa", sum := "9676e93c6d11e82f22118abb4f63f256bee08798b24c1b6a2255eaad12c90ddf", func := "hornbeam/hornbeamlaw08.ConfigEnds", spec := "configEnds", apart := false, narrowed := true }
def ConfigEndsUptoSaid : Prop := configEndsUptoRow.holds Try.pinned (OpenSpec.upto configEndsSpec)

/-- 'hornbeamlaw08.ConfigFirst', WHERE WHAT IT READS IS OF BULK AT MOST 1048576: true; the input reads as it did. -/
def configFirstUptoRow : OpenClaim := { program := "ytodejnligocadaa", sum := "9676e93c6d11e82f22118abb4f63f256bee08798b24c1b6a2255eaad12c90ddf", func := "hornbeam/hornbeamlaw08.ConfigFirst", spec := "configFirst", apart := false, narrowed := true }
def ConfigFirstUptoSaid : Prop := configFirstUptoRow.holds Try.pinned (OpenSpec.upto configFirstSpec)

end Rows
end Go.Proofs.Ytodejnligocadaa
