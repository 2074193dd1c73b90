/-
  No cell of these rows narrows 'for every input' (looked for: loops, veiled, ifaces, maps, wideKeys, modest, calm, conditions, laid).
  DERIVED. THE GIVEN ROWS OF THIS SEAT. 3 by the template 'for every input the law returns true; each argument reads behind the call as it read before'; 0 by the template 'total and deterministic' (their statements: YtikdiaikggojjaaTotals.lean).
  GIVEN WITH THE SEED: the statements are not yours to turn. If you find one false, say at which input.
  Laid BY PROGRAM, IN A SANDBOX (cutbox-rows.mjs): the forced cells as the released guide's own fill.sh prints them over the translation a8af782280624275… (all of the seat's roots in one cut). By AI agents, Wed Nov 11 2026. No macro, syntax, notation, axiom, sorry.
-/
import Derived.Test.YtikdiaikggojjaaChecked
import GoSem.Claim
import GoSem.ClaimJoined
import GoSem.ClaimMapViews
import Derived.JoinedTies
import Derived.KernelRfl
namespace Go.Proofs.Ytikdiaikggojjaa
/- THE CELL 'sum', in the pinned program and in every row, IS THE sha256 OF THE DUMP (.gsa) THAT YtikdiaikggojjaaProg.lean LOADS. Nothing in Lean hashes anything: it is a label: what it is worth is what the hold of that sum in a sandbox is worth. -/
noncomputable def Try.pinned : Pinned := { name := "ytikdiaikggojjaa", sum := "a8af7822806242758ddfb92041ed90145060d87bcca8bbd8b5bca54f7194f59e", checked := Try.checked }
namespace Rows
def none {H : Type} : Left H := { results := [], args := [] }

/-- 'hornbeamlaw02.StreamBelow': WHATEVER THE INPUT: true; the input reads as it did. -/
def streamBelowSpec : ChangeSpec := { name := "streamBelow", fn := fun _ => fun
  | [d1, d2] => { results := [.lit (.bool true)], args := [d1, d2] }
  | _ => none }
def streamBelowRow : OpenClaim := { program := "ytikdiaikggojjaa", sum := "a8af7822806242758ddfb92041ed90145060d87bcca8bbd8b5bca54f7194f59e", func := "hornbeam/hornbeamlaw02.StreamBelow", spec := "streamBelow", unfollowed := true, recurses := true, apart := false }
def StreamBelowSaid : Prop := streamBelowRow.holds Try.pinned (OpenSpec.ofChange streamBelowSpec)

/-- ITS FALSE NEIGHBOUR: 'it returns false'. Refute it at one input. -/
def streamBelowWrong : ChangeSpec := { name := "streamBelow", fn := fun _ => fun
  | [d1, d2] => { results := [.lit (.bool false)], args := [d1, d2] }
  | _ => none }
def StreamBelowWrongFalsely : Prop := streamBelowRow.holds Try.pinned (OpenSpec.ofChange streamBelowWrong)

/-- 'hornbeamlaw02.StreamFair': WHATEVER THE INPUT: true; the input reads as it did. -/
def streamFairSpec : ChangeSpec := { name := "streamFair", fn := fun _ => fun
  | [d1, d2, d3] => { results := [.lit (.bool true)], args := [d1, d2, d3] }
  | _ => none }
def streamFairRow : OpenClaim := { program := "ytikdiaikggojjaa", sum := "a8af7822806242758ddfb92041ed90145060d87bcca8bbd8b5bca54f7194f59e", func := "hornbeam/hornbeamlaw02.StreamFair", spec := "streamFair", unfollowed := true, recurses := true, apart := false }
def StreamFairSaid : Prop := streamFairRow.holds Try.pinned (OpenSpec.ofChange streamFairSpec)

/-- ITS FALSE NEIGHBOUR: 'it returns false'. Refute it at one input. -/
def streamFairWrong : ChangeSpec := { name := "streamFair", fn := fun _ => fun
  | [d1, d2, d3] => { results := [.lit (.bool false)], args := [d1, d2, d3] }
  | _ => none }
def StreamFairWrongFalsely : Prop := streamFairRow.holds Try.pinned (OpenSpec.ofChange streamFairWrong)

/-- 'hornbeamlaw02.StreamEnds': WHATEVER THE INPUT: true; the input reads as it did. -/
def streamEndsSpec : ChangeSpec := { name := "streamEnds", fn := fun _ => fun
  | [d1, d2] => { results := [.lit (.bool true)], args := [d1, d2] }
  | _ => none }
def streamEndsRow : OpenClaim := { program := "ytikdiaikggojjaa", sum := "a8af7822806242758ddfb92041ed90145060d87bcca8bbd8b5bca54f7194f59e", func := "hornbeam/hornbeamlaw02.StreamEnds", spec := "streamEnds", unfollowed := true, recurses := true, apart := false }
def StreamEndsSaid : Prop := streamEndsRow.holds Try.pinned (OpenSpec.ofChange streamEndsSpec)

/-- ITS FALSE NEIGHBOUR: 'it returns false'. Refute it at one input. -/
def streamEndsWrong : ChangeSpec := { name := "streamEnds", fn := fun _ => fun
  | [d1, d2] => { results := [.lit (.bool false)], args := [d1, d2] }
  | _ => none }
def StreamEndsWrongFalsely : Prop := streamEndsRow.holds Try.pinned (OpenSpec.ofChange streamEndsWrong)

/- THE SECOND FORM. 'bulk': how many values and letters a reading holds, each counted each time it is reached (what is shared counts as often as it is met; a slice's spare places count too). A statement '..UptoSaid' is the law's where the arguments, and the package variables that the reading takes, are together of bulk at most 1048576: NARROWER than '..Said'. Prove '..Said' where nothing that the law and all that it calls make is longer than what came in: it says more and counts as full. Else prove '..UptoSaid'. A law counts once. -/
mutual
def uptoBulk {H : Type} : DataW H → Nat
  | .lit (.string bytes) => bytes.length + 1
  | .lit _ => 1
  | .nil => 1
  | .ptr d => uptoBulk d + 1
  | .slice elems spare => uptoBulkAll elems + uptoBulkAll spare + 1
  | .agg parts => uptoBulkAll parts + 1
  | .iface _ d => uptoBulk d + 1
  | .map entries => uptoBulkEntries entries + 1
  | .held _ => 1
def uptoBulkAll {H : Type} : List (DataW H) → Nat
  | [] => 0
  | d :: r => uptoBulk d + uptoBulkAll r
def uptoBulkEntries {H : Type} : List (Lit × DataW H) → Nat
  | [] => 0
  | x :: r => uptoBulkEntry x + uptoBulkEntries r
def uptoBulkEntry {H : Type} : Lit × DataW H → Nat
  | (.string bytes, d) => bytes.length + uptoBulk d + 1
  | (_, d) => uptoBulk d + 1
 end
def uptoSmall : (H : Type) → List (DataW H) → Bool := fun _ ds => decide (uptoBulkAll ds ≤ 1048576)
def OpenSpec.upto (s : _root_.Go.ChangeSpec) : _root_.Go.OpenSpec := { _root_.Go.OpenSpec.ofChange s with cond := some uptoSmall }

/-- 'hornbeamlaw02.StreamBelow', WHERE WHAT IT READS IS OF BULK AT MOST 1048576: true; the input reads as it did. -/
def streamBelowUptoRow : OpenClaim := { program := "ytikdiaikggojjaa", sum := "a8af7822806242758ddfb92041ed90145060d87bcca8bbd8b5bca54f7194f59e", func := "hornbeam/hornbeamlaw02.StreamBelow", spec := "streamBelow", unfollowed := true, recurses := true, apart := false, narrowed := true }
def StreamBelowUptoSaid : Prop := streamBelowUptoRow.holds Try.pinned (OpenSpec.upto streamBelowSpec)

/-- 'hornbeamlaw02.StreamFair', WHERE WHAT IT READS IS OF BULK AT MOST 1048576: true; the input reads as it did. -/
def streamFairUptoRow : OpenClaim := { program := "ytikdiaikggojjaa", sum := "a8af7822806242758ddfb92041ed90145060d87bcca8bbd8b5bca54f7194f59e", func := "hornbeam/hornbeamlaw02.StreamFair", spec := "streamFair", unfollowed := true, recurses := true, apart := false, narrowed := true }
def StreamFairUptoSaid : Prop := streamFairUptoRow.holds Try.pinned (OpenSpec.upto streamFairSpec)

/-- 'hornbeamlaw02.StreamEnds', WHERE WHAT IT READS IS OF BULK AT MOST 1048576: true; the input reads as it did. -/
def streamEndsUptoRow : OpenClaim := { program := "ytikdiaikggojjaa", sum := "a8af7822806242758ddfb92041ed90145060d87bcca8bbd8b5bca54f7194f59e", func := "hornbeam/hornbeamlaw02.StreamEnds", spec := "streamEnds", unfollowed := true, recurses := true, apart := false, narrowed := true }
def StreamEndsUptoSaid : Prop := streamEndsUptoRow.holds Try.pinned (OpenSpec.upto streamEndsSpec)

end Rows
end Go.Proofs.Ytikdiaikggojjaa
