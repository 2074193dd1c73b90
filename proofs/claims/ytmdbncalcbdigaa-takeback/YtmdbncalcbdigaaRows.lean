/-
  No cell of these rows narrows 'for every input' (looked for: loops, veiled, ifaces, maps, wideKeys, modest, calm, conditions, laid).
  DERIVED. THE GIVEN ROWS OF THIS SEAT. 4 by the template 'for every input the law returns true; each argument reads behind the call as it read before'; 0 by the template 'total and deterministic' (their statements: YtmdbncalcbdigaaTotals.lean).
  GIVEN WITH THE SEED: the statements are not yours to turn. If you find one false, say at which input.
  Laid BY PROGRAM, IN A SANDBOX (cutbox-rows.mjs): the forced cells as the released guide's own fill.sh prints them over the translation 9e9dc3867a0cf12d… (all of the seat's roots in one cut). By AI agents, Wed Nov 11 2026. No macro, syntax, notation, axiom, sorry.
-/
import Derived.Test.YtmdbncalcbdigaaChecked
import GoSem.Claim
import GoSem.ClaimJoined
import GoSem.ClaimMapViews
import Derived.JoinedTies
import Derived.KernelRfl
namespace Go.Proofs.Ytmdbncalcbdigaa
/- THE CELL 'sum', in the pinned program and in every row, IS THE sha256 OF THE DUMP (.gsa) THAT YtmdbncalcbdigaaProg.lean LOADS. Nothing in Lean hashes anything: it is a label: what it is worth is what the hold of that sum in a sandbox is worth. -/
noncomputable def Try.pinned : Pinned := { name := "ytmdbncalcbdigaa", sum := "9e9dc3867a0cf12dd1b39905c4c40c9272e03c4bcf1189083beb420657cba2e0", checked := Try.checked }
namespace Rows
def none {H : Type} : Left H := { results := [], args := [] }

/-- 'hornbeamlaw07.TakePlays': WHATEVER THE INPUT: true; the input reads as it did. -/
def takePlaysSpec : ChangeSpec := { name := "takePlays", fn := fun _ => fun
  | [d1, d2] => { results := [.lit (.bool true)], args := [d1, d2] }
  | _ => none }
def takePlaysRow : OpenClaim := { program := "ytmdbncalcbdigaa", sum := "9e9dc3867a0cf12dd1b39905c4c40c9272e03c4bcf1189083beb420657cba2e0", func := "hornbeam/hornbeamlaw07.TakePlays", spec := "takePlays", unfollowed := true, recurses := true, apart := false }
def TakePlaysSaid : Prop := takePlaysRow.holds Try.pinned (OpenSpec.ofChange takePlaysSpec)

/-- ITS FALSE NEIGHBOUR: 'it returns false'. Refute it at one input. -/
def takePlaysWrong : ChangeSpec := { name := "takePlays", fn := fun _ => fun
  | [d1, d2] => { results := [.lit (.bool false)], args := [d1, d2] }
  | _ => none }
def TakePlaysWrongFalsely : Prop := takePlaysRow.holds Try.pinned (OpenSpec.ofChange takePlaysWrong)

/-- 'hornbeamlaw07.TakeFails': WHATEVER THE INPUT: true; the input reads as it did. -/
def takeFailsSpec : ChangeSpec := { name := "takeFails", fn := fun _ => fun
  | [d1, d2, d3] => { results := [.lit (.bool true)], args := [d1, d2, d3] }
  | _ => none }
def takeFailsRow : OpenClaim := { program := "ytmdbncalcbdigaa", sum := "9e9dc3867a0cf12dd1b39905c4c40c9272e03c4bcf1189083beb420657cba2e0", func := "hornbeam/hornbeamlaw07.TakeFails", spec := "takeFails", unfollowed := true, recurses := true, apart := false }
def TakeFailsSaid : Prop := takeFailsRow.holds Try.pinned (OpenSpec.ofChange takeFailsSpec)

/-- ITS FALSE NEIGHBOUR: 'it returns false'. Refute it at one input. -/
def takeFailsWrong : ChangeSpec := { name := "takeFails", fn := fun _ => fun
  | [d1, d2, d3] => { results := [.lit (.bool false)], args := [d1, d2, d3] }
  | _ => none }
def TakeFailsWrongFalsely : Prop := takeFailsRow.holds Try.pinned (OpenSpec.ofChange takeFailsWrong)

/-- 'hornbeamlaw07.TakePuts': WHATEVER THE INPUT: true; the input reads as it did. -/
def takePutsSpec : ChangeSpec := { name := "takePuts", fn := fun _ => fun
  | [d1, d2, d3] => { results := [.lit (.bool true)], args := [d1, d2, d3] }
  | _ => none }
def takePutsRow : OpenClaim := { program := "ytmdbncalcbdigaa", sum := "9e9dc3867a0cf12dd1b39905c4c40c9272e03c4bcf1189083beb420657cba2e0", func := "hornbeam/hornbeamlaw07.TakePuts", spec := "takePuts", inPlace := ["math.Float64frombits", "math.Float64bits"], unfollowed := true, recurses := true, apart := false }
def TakePutsSaid : Prop := takePutsRow.holds Try.pinned (OpenSpec.ofChange takePutsSpec)

/-- ITS FALSE NEIGHBOUR: 'it returns false'. Refute it at one input. -/
def takePutsWrong : ChangeSpec := { name := "takePuts", fn := fun _ => fun
  | [d1, d2, d3] => { results := [.lit (.bool false)], args := [d1, d2, d3] }
  | _ => none }
def TakePutsWrongFalsely : Prop := takePutsRow.holds Try.pinned (OpenSpec.ofChange takePutsWrong)

/-- 'hornbeamlaw07.TakeBack': WHATEVER THE INPUT: true; the input reads as it did. -/
def takeBackSpec : ChangeSpec := { name := "takeBack", fn := fun _ => fun
  | [d1, d2] => { results := [.lit (.bool true)], args := [d1, d2] }
  | _ => none }
def takeBackRow : OpenClaim := { program := "ytmdbncalcbdigaa", sum := "9e9dc3867a0cf12dd1b39905c4c40c9272e03c4bcf1189083beb420657cba2e0", func := "hornbeam/hornbeamlaw07.TakeBack", spec := "takeBack", inPlace := ["math.Float64frombits", "math.Float64bits"], unfollowed := true, recurses := true, apart := false }
def TakeBackSaid : Prop := takeBackRow.holds Try.pinned (OpenSpec.ofChange takeBackSpec)

/-- ITS FALSE NEIGHBOUR: 'it returns false'. Refute it at one input. -/
def takeBackWrong : ChangeSpec := { name := "takeBack", fn := fun _ => fun
  | [d1, d2] => { results := [.lit (.bool false)], args := [d1, d2] }
  | _ => none }
def TakeBackWrongFalsely : Prop := takeBackRow.holds Try.pinned (OpenSpec.ofChange takeBackWrong)

/- THE SECOND FORM. 'bulk': how many values and letters a reading holds, each counted each time it is reached (what is shared counts as often as it is met; a slice's spare places count too). A statement '..UptoSaid' is the law's where the arguments, and the package variables that the reading takes, are together of bulk at most 1048576: NARROWER than '..Said'. Prove '..Said' where nothing that the law and all that it calls make is longer than what came in: it says more and counts as full. Else prove '..UptoSaid'. A law counts once. -/
mutual
def uptoBulk {H : Type} : DataW H → Nat
  | .lit (.string bytes) => bytes.length + 1
  | .lit _ => 1
  | .nil => 1
  | .ptr d => uptoBulk d + 1
  | .slice elems spare => uptoBulkAll elems + uptoBulkAll spare + 1
  | .agg parts => uptoBulkAll parts + 1
  | .iface _ d => uptoBulk d + 1
  | .map entries => uptoBulkEntries entries + 1
  | .held _ => 1
def uptoBulkAll {H : Type} : List (DataW H) → Nat
  | [] => 0
  | d :: r => uptoBulk d + uptoBulkAll r
def uptoBulkEntries {H : Type} : List (Lit × DataW H) → Nat
  | [] => 0
  | x :: r => uptoBulkEntry x + uptoBulkEntries r
def uptoBulkEntry {H : Type} : Lit × DataW H → Nat
  | (.string bytes, d) => bytes.length + uptoBulk d + 1
  | (_, d) => uptoBulk d + 1
 end
def uptoSmall : (H : Type) → List (DataW H) → Bool := fun _ ds => decide (uptoBulkAll ds ≤ 1048576)
def OpenSpec.upto (s : _root_.Go.ChangeSpec) : _root_.Go.OpenSpec := { _root_.Go.OpenSpec.ofChange s with cond := some uptoSmall }

/-- 'hornbeamlaw07.TakePlays', WHERE WHAT IT READS IS OF BULK AT MOST 1048576: true; the input reads as it did. -/
def takePlaysUptoRow : OpenClaim := { program := "ytmdbncalcbdigaa", sum := "9e9dc3867a0cf12dd1b39905c4c40c9272e03c4bcf1189083beb420657cba2e0", func := "hornbeam/hornbeamlaw07.TakePlays", spec := "takePlays", unfollowed := true, recurses := true, apart := false, narrowed := true }
def TakePlaysUptoSaid : Prop := takePlaysUptoRow.holds Try.pinned (OpenSpec.upto takePlaysSpec)

/-- 'hornbeamlaw07.TakeFails', WHERE WHAT IT READS IS OF BULK AT MOST 1048576: true; the input reads as it did. -/
def takeFailsUptoRow : OpenClaim := { program := "ytmdbncalcbdigaa", sum := "9e9dc3867a0cf12dd1b39905c4c40c9272e03c4bcf1189083beb420657cba2e0", func := "hornbeam/hornbeamlaw07.TakeFails", spec := "takeFails", unfollowed := true, recurses := true, apart := false, narrowed := true }
def TakeFailsUptoSaid : Prop := takeFailsUptoRow.holds Try.pinned (OpenSpec.upto takeFailsSpec)

/-- 'hornbeamlaw07.TakePuts', WHERE WHAT IT READS IS OF BULK AT MOST 1048576: true; the input reads as it did. -/
def takePutsUptoRow : OpenClaim := { program := "ytmdbncalcbdigaa", sum := "9e9dc3867a0cf12dd1b39905c4c40c9272e03c4bcf1189083beb420657cba2e0", func := "hornbeam/hornbeamlaw07.TakePuts", spec := "takePuts", inPlace := ["math.Float64frombits", "math.Float64bits"], unfollowed := true, recurses := true, apart := false, narrowed := true }
def TakePutsUptoSaid : Prop := takePutsUptoRow.holds Try.pinned (OpenSpec.upto takePutsSpec)

/-- 'hornbeamlaw07.TakeBack', WHERE WHAT IT READS IS OF BULK AT MOST 1048576: true; the input reads as it did. -/
def takeBackUptoRow : OpenClaim := { program := "ytmdbncalcbdigaa", sum := "9e9dc3867a0cf12dd1b39905c4c40c9272e03c4bcf1189083beb420657cba2e0", func := "hornbeam/hornbeamlaw07.TakeBack", spec := "takeBack", inPlace := ["math.Float64frombits", "math.Float64bits"], unfollowed := true, recurses := true, apart := false, narrowed := true }
def TakeBackUptoSaid : Prop := takeBackUptoRow.holds Try.pinned (OpenSpec.upto takeBackSpec)

end Rows
end Go.Proofs.Ytmdbncalcbdigaa
