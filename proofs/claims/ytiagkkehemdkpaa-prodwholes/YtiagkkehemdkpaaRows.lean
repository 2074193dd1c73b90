/-
  No cell of these rows narrows 'for every input' (looked for: loops, veiled, ifaces, maps, wideKeys, modest, calm, conditions, laid).
  DERIVED. THE GIVEN ROWS OF THIS SEAT. 5 by the template 'for every input the law returns true; each argument reads behind the call as it read before'; 0 by the template 'total and deterministic' (their statements: YtiagkkehemdkpaaTotals.lean).
  GIVEN WITH THE SEED: the statements are not yours to turn. If you find one false, say at which input.
  Laid BY PROGRAM, IN A SANDBOX (cutbox-rows.mjs): the forced cells as the released guide's own fill.sh prints them over the translation 9639569ddd1d52f6… (all of the seat's roots in one cut). By AI agents, Wed Nov 11 2026. No macro, syntax, notation, axiom, sorry.
-/
import Derived.Test.YtiagkkehemdkpaaChecked
import GoSem.Claim
import GoSem.ClaimJoined
import GoSem.ClaimMapViews
import Derived.JoinedTies
import Derived.KernelRfl
namespace Go.Proofs.Ytiagkkehemdkpaa
/- THE CELL 'sum', in the pinned program and in every row, IS THE sha256 OF THE DUMP (.gsa) THAT YtiagkkehemdkpaaProg.lean LOADS. Nothing in Lean hashes anything: it is a label: what it is worth is what the hold of that sum in a sandbox is worth. -/
noncomputable def Try.pinned : Pinned := { name := "ytiagkkehemdkpaa", sum := "9639569ddd1d52f6d63642d2a4821284a6188d976b7ac69a493e82d6c1f3f3df", checked := Try.checked }
namespace Rows
def none {H : Type} : Left H := { results := [], args := [] }

/-- 'hornbeamlaw04.ProdWides': WHATEVER THE INPUT: true; the input reads as it did. -/
def prodWidesSpec : ChangeSpec := { name := "prodWides", fn := fun _ => fun
  | [d1, d2, d3] => { results := [.lit (.bool true)], args := [d1, d2, d3] }
  | _ => none }
def prodWidesRow : OpenClaim := { program := "ytiagkkehemdkpaa", sum := "9639569ddd1d52f6d63642d2a4821284a6188d976b7ac69a493e82d6c1f3f3df", func := "hornbeam/hornbeamlaw04.ProdWides", spec := "prodWides", inPlace := ["math/bits.Add64"], apart := false }
def ProdWidesSaid : Prop := prodWidesRow.holds Try.pinned (OpenSpec.ofChange prodWidesSpec)

/-- ITS FALSE NEIGHBOUR: 'it returns false'. Refute it at one input. -/
def prodWidesWrong : ChangeSpec := { name := "prodWides", fn := fun _ => fun
  | [d1, d2, d3] => { results := [.lit (.bool false)], args := [d1, d2, d3] }
  | _ => none }
def ProdWidesWrongFalsely : Prop := prodWidesRow.holds Try.pinned (OpenSpec.ofChange prodWidesWrong)

/-- 'hornbeamlaw04.ProdWholes': WHATEVER THE INPUT: true; the input reads as it did. -/
def prodWholesSpec : ChangeSpec := { name := "prodWholes", fn := fun _ => fun
  | [d1, d2] => { results := [.lit (.bool true)], args := [d1, d2] }
  | _ => none }
def prodWholesRow : OpenClaim := { program := "ytiagkkehemdkpaa", sum := "9639569ddd1d52f6d63642d2a4821284a6188d976b7ac69a493e82d6c1f3f3df", func := "hornbeam/hornbeamlaw04.ProdWholes", spec := "prodWholes", apart := false }
def ProdWholesSaid : Prop := prodWholesRow.holds Try.pinned (OpenSpec.ofChange prodWholesSpec)

/-- ITS FALSE NEIGHBOUR: 'it returns false'. Refute it at one input. -/
def prodWholesWrong : ChangeSpec := { name := "prodWholes", fn := fun _ => fun
  | [d1, d2] => { results := [.lit (.bool false)], args := [d1, d2] }
  | _ => none }
def ProdWholesWrongFalsely : Prop := prodWholesRow.holds Try.pinned (OpenSpec.ofChange prodWholesWrong)

/-- 'hornbeamlaw04.ProdFloors': WHATEVER THE INPUT: true; the input reads as it did. -/
def prodFloorsSpec : ChangeSpec := { name := "prodFloors", fn := fun _ => fun
  | [d1, d2] => { results := [.lit (.bool true)], args := [d1, d2] }
  | _ => none }
def prodFloorsRow : OpenClaim := { program := "ytiagkkehemdkpaa", sum := "9639569ddd1d52f6d63642d2a4821284a6188d976b7ac69a493e82d6c1f3f3df", func := "hornbeam/hornbeamlaw04.ProdFloors", spec := "prodFloors", apart := false }
def ProdFloorsSaid : Prop := prodFloorsRow.holds Try.pinned (OpenSpec.ofChange prodFloorsSpec)

/-- ITS FALSE NEIGHBOUR: 'it returns false'. Refute it at one input. -/
def prodFloorsWrong : ChangeSpec := { name := "prodFloors", fn := fun _ => fun
  | [d1, d2] => { results := [.lit (.bool false)], args := [d1, d2] }
  | _ => none }
def ProdFloorsWrongFalsely : Prop := prodFloorsRow.holds Try.pinned (OpenSpec.ofChange prodFloorsWrong)

/-- 'hornbeamlaw04.ProdTurns': WHATEVER THE INPUT: true; the input reads as it did. -/
def prodTurnsSpec : ChangeSpec := { name := "prodTurns", fn := fun _ => fun
  | [d1, d2, d3] => { results := [.lit (.bool true)], args := [d1, d2, d3] }
  | _ => none }
def prodTurnsRow : OpenClaim := { program := "ytiagkkehemdkpaa", sum := "9639569ddd1d52f6d63642d2a4821284a6188d976b7ac69a493e82d6c1f3f3df", func := "hornbeam/hornbeamlaw04.ProdTurns", spec := "prodTurns", inPlace := ["math/bits.Add64"], apart := false }
def ProdTurnsSaid : Prop := prodTurnsRow.holds Try.pinned (OpenSpec.ofChange prodTurnsSpec)

/-- ITS FALSE NEIGHBOUR: 'it returns false'. Refute it at one input. -/
def prodTurnsWrong : ChangeSpec := { name := "prodTurns", fn := fun _ => fun
  | [d1, d2, d3] => { results := [.lit (.bool false)], args := [d1, d2, d3] }
  | _ => none }
def ProdTurnsWrongFalsely : Prop := prodTurnsRow.holds Try.pinned (OpenSpec.ofChange prodTurnsWrong)

/-- 'hornbeamlaw04.ProdBack': WHATEVER THE INPUT: true; the input reads as it did. -/
def prodBackSpec : ChangeSpec := { name := "prodBack", fn := fun _ => fun
  | [d1, d2] => { results := [.lit (.bool true)], args := [d1, d2] }
  | _ => none }
def prodBackRow : OpenClaim := { program := "ytiagkkehemdkpaa", sum := "9639569ddd1d52f6d63642d2a4821284a6188d976b7ac69a493e82d6c1f3f3df", func := "hornbeam/hornbeamlaw04.ProdBack", spec := "prodBack", apart := false }
def ProdBackSaid : Prop := prodBackRow.holds Try.pinned (OpenSpec.ofChange prodBackSpec)

/-- ITS FALSE NEIGHBOUR: 'it returns false'. Refute it at one input. -/
def prodBackWrong : ChangeSpec := { name := "prodBack", fn := fun _ => fun
  | [d1, d2] => { results := [.lit (.bool false)], args := [d1, d2] }
  | _ => none }
def ProdBackWrongFalsely : Prop := prodBackRow.holds Try.pinned (OpenSpec.ofChange prodBackWrong)

/- THE SECOND FORM. 'bulk': how many values and letters a reading holds, each counted each time it is reached (what is shared counts as often as it is met; a slice's spare places count too). A statement '..UptoSaid' is the law's where the arguments, and the package variables that the reading takes, are together of bulk at most 1048576: NARROWER than '..Said'. Prove '..Said' where nothing that the law and all that it calls make is longer than what came in: it says more and counts as full. Else prove '..UptoSaid'. A law counts once. -/
mutual
def uptoBulk {H : Type} : DataW H → Nat
  | .lit (.string bytes) => bytes.length + 1
  | .lit _ => 1
  | .nil => 1
  | .ptr d => uptoBulk d + 1
  | .slice elems spare => uptoBulkAll elems + uptoBulkAll spare + 1
  | .agg parts => uptoBulkAll parts + 1
  | .iface _ d => uptoBulk d + 1
  | .map entries => uptoBulkEntries entries + 1
  | .held _ => 1
def uptoBulkAll {H : Type} : List (DataW H) → Nat
  | [] => 0
  | d :: r => uptoBulk d + uptoBulkAll r
def uptoBulkEntries {H : Type} : List (Lit × DataW H) → Nat
  | [] => 0
  | x :: r => uptoBulkEntry x + uptoBulkEntries r
def uptoBulkEntry {H : Type} : Lit × DataW H → Nat
  | (.string bytes, d) => bytes.length + uptoBulk d + 1
  | (_, d) => uptoBulk d + 1
 end
def uptoSmall : (H : Type) → List (DataW H) → Bool := fun _ ds => decide (uptoBulkAll ds ≤ 1048576)
def OpenSpec.upto (s : _root_.Go.ChangeSpec) : _root_.Go.OpenSpec := { _root_.Go.OpenSpec.ofChange s with cond := some uptoSmall }

/-- 'hornbeamlaw04.ProdWides', WHERE WHAT IT READS IS OF BULK AT MOST 1048576: true; the input reads as it did. -/
def prodWidesUptoRow : OpenClaim := { program := "ytiagkkehemdkpaa", sum := "9639569ddd1d52f6d63642d2a4821284a6188d976b7ac69a493e82d6c1f3f3df", func := "hornbeam/hornbeamlaw04.ProdWides", spec := "prodWides", inPlace := ["math/bits.Add64"], apart := false, narrowed := true }
def ProdWidesUptoSaid : Prop := prodWidesUptoRow.holds Try.pinned (OpenSpec.upto prodWidesSpec)

/-- 'hornbeamlaw04.ProdWholes', WHERE WHAT IT READS IS OF BULK AT MOST 1048576: true; the input reads as it did. -/
def prodWholesUptoRow : OpenClaim := { program := "ytiagkkehemdkpaa", sum := "9639569ddd1d52f6d63642d2a4821284a6188d976b7ac69a493e82d6c1f3f3df", func := "hornbeam/hornbeamlaw04.ProdWholes", spec := "prodWholes", apart := false, narrowed := true }
def ProdWholesUptoSaid : Prop := prodWholesUptoRow.holds Try.pinned (OpenSpec.upto prodWholesSpec)

/-- 'hornbeamlaw04.ProdFloors', WHERE WHAT IT READS IS OF BULK AT MOST 1048576: true; the input reads as it did. -/
def prodFloorsUptoRow : OpenClaim := { program := "ytiagkkehemdkpaa", sum := "9639569ddd1d52f6d63642d2a4821284a6188d976b7ac69a493e82d6c1f3f3df", func := "hornbeam/hornbeamlaw04.ProdFloors", spec := "prodFloors", apart := false, narrowed := true }
def ProdFloorsUptoSaid : Prop := prodFloorsUptoRow.holds Try.pinned (OpenSpec.upto prodFloorsSpec)

/-- 'hornbeamlaw04.ProdTurns', WHERE WHAT IT READS IS OF BULK AT MOST 1048576: true; the input reads as it did. -/
def prodTurnsUptoRow : OpenClaim := { program := "ytiagkkehemdkpaa", sum := "9639569ddd1d52f6d63642d2a4821284a6188d976b7ac69a493e82d6c1f3f3df", func := "hornbeam/hornbeamlaw04.ProdTurns", spec := "prodTurns", inPlace := ["math/bits.Add64"], apart := false, narrowed := true }
def ProdTurnsUptoSaid : Prop := prodTurnsUptoRow.holds Try.pinned (OpenSpec.upto prodTurnsSpec)

/-- 'hornbeamlaw04.ProdBack', WHERE WHAT IT READS IS OF BULK AT MOST 1048576: true; the input reads as it did. -/
def prodBackUptoRow : OpenClaim := { program := "ytiagkkehemdkpaa", sum := "9639569ddd1d52f6d63642d2a4821284a6188d976b7ac69a493e82d6c1f3f3df", func := "hornbeam/hornbeamlaw04.ProdBack", spec := "prodBack", apart := false, narrowed := true }
def ProdBackUptoSaid : Prop := prodBackUptoRow.holds Try.pinned (OpenSpec.upto prodBackSpec)

end Rows
end Go.Proofs.Ytiagkkehemdkpaa
