/-
  No cell of these rows narrows 'for every input' (looked for: loops, veiled, ifaces, maps, wideKeys, modest, calm, conditions, laid).
  DERIVED. THE GIVEN ROWS OF THIS SEAT. 4 by the template 'for every input the law returns true; each argument reads behind the call as it read before'; 0 by the template 'total and deterministic' (their statements: YtbmbgfmhejahjaaTotals.lean).
  GIVEN WITH THE SEED: the statements are not yours to turn. If you find one false, say at which input.
  Laid BY PROGRAM, IN A SANDBOX (cutbox-rows.mjs): the forced cells as the released guide's own fill.sh prints them over the translation 1cbad0ae666f8dcf… (all of the seat's roots in one cut). By AI agents, Wed Nov 11 2026. No macro, syntax, notation, axiom, sorry.
-/
import Derived.Test.YtbmbgfmhejahjaaChecked
import GoSem.Claim
import GoSem.ClaimJoined
import GoSem.ClaimMapViews
import Derived.JoinedTies
import Derived.KernelRfl
namespace Go.Proofs.Ytbmbgfmhejahjaa
/- THE CELL 'sum', in the pinned program and in every row, IS THE sha256 OF THE DUMP (.gsa) THAT YtbmbgfmhejahjaaProg.lean LOADS. Nothing in Lean hashes anything: it is a label: what it is worth is what the hold of that sum in a sandbox is worth. -/
noncomputable def Try.pinned : Pinned := { name := "ytbmbgfmhejahjaa", sum := "1cbad0ae666f8dcfaff74819f16da3eb6ea30d43997f9313644025f518e6c5c9", checked := Try.checked }
namespace Rows
def none {H : Type} : Left H := { results := [], args := [] }

/-- 'hornbeamlaw09.DatasetPuts': WHATEVER THE INPUT: true; the input reads as it did. -/
def datasetPutsSpec : ChangeSpec := { name := "datasetPuts", fn := fun _ => fun
  | [d] => { results := [.lit (.bool true)], args := [d] }
  | _ => none }
def datasetPutsRow : OpenClaim := { program := "ytbmbgfmhejahjaa", sum := "1cbad0ae666f8dcfaff74819f16da3eb6ea30d43997f9313644025f518e6c5c9", func := "hornbeam/hornbeamlaw09.DatasetPuts", spec := "datasetPuts", inPlace := ["math.Float64frombits", "math.Float64bits"], unfollowed := true, recurses := true, apart := false }
def DatasetPutsSaid : Prop := datasetPutsRow.holds Try.pinned (OpenSpec.ofChange datasetPutsSpec)

/-- ITS FALSE NEIGHBOUR: 'it returns false'. Refute it at one input. -/
def datasetPutsWrong : ChangeSpec := { name := "datasetPuts", fn := fun _ => fun
  | [d] => { results := [.lit (.bool false)], args := [d] }
  | _ => none }
def DatasetPutsWrongFalsely : Prop := datasetPutsRow.holds Try.pinned (OpenSpec.ofChange datasetPutsWrong)

/-- 'hornbeamlaw09.DatasetGets': WHATEVER THE INPUT: true; the input reads as it did. -/
def datasetGetsSpec : ChangeSpec := { name := "datasetGets", fn := fun _ => fun
  | [d] => { results := [.lit (.bool true)], args := [d] }
  | _ => none }
def datasetGetsRow : OpenClaim := { program := "ytbmbgfmhejahjaa", sum := "1cbad0ae666f8dcfaff74819f16da3eb6ea30d43997f9313644025f518e6c5c9", func := "hornbeam/hornbeamlaw09.DatasetGets", spec := "datasetGets", inPlace := ["math.Float64frombits", "math.Float64bits"], unfollowed := true, recurses := true, apart := false }
def DatasetGetsSaid : Prop := datasetGetsRow.holds Try.pinned (OpenSpec.ofChange datasetGetsSpec)

/-- ITS FALSE NEIGHBOUR: 'it returns false'. Refute it at one input. -/
def datasetGetsWrong : ChangeSpec := { name := "datasetGets", fn := fun _ => fun
  | [d] => { results := [.lit (.bool false)], args := [d] }
  | _ => none }
def DatasetGetsWrongFalsely : Prop := datasetGetsRow.holds Try.pinned (OpenSpec.ofChange datasetGetsWrong)

/-- 'hornbeamlaw09.DatasetCuts': WHATEVER THE INPUT: true; the input reads as it did. -/
def datasetCutsSpec : ChangeSpec := { name := "datasetCuts", fn := fun _ => fun
  | [d1, d2, d3] => { results := [.lit (.bool true)], args := [d1, d2, d3] }
  | _ => none }
def datasetCutsRow : OpenClaim := { program := "ytbmbgfmhejahjaa", sum := "1cbad0ae666f8dcfaff74819f16da3eb6ea30d43997f9313644025f518e6c5c9", func := "hornbeam/hornbeamlaw09.DatasetCuts", spec := "datasetCuts", inPlace := ["math.Float64frombits", "math.Float64bits"], unfollowed := true, recurses := true, apart := false }
def DatasetCutsSaid : Prop := datasetCutsRow.holds Try.pinned (OpenSpec.ofChange datasetCutsSpec)

/-- ITS FALSE NEIGHBOUR: 'it returns false'. Refute it at one input. -/
def datasetCutsWrong : ChangeSpec := { name := "datasetCuts", fn := fun _ => fun
  | [d1, d2, d3] => { results := [.lit (.bool false)], args := [d1, d2, d3] }
  | _ => none }
def DatasetCutsWrongFalsely : Prop := datasetCutsRow.holds Try.pinned (OpenSpec.ofChange datasetCutsWrong)

/-- 'hornbeamlaw09.DatasetParts': WHATEVER THE INPUT: true; the input reads as it did. -/
def datasetPartsSpec : ChangeSpec := { name := "datasetParts", fn := fun _ => fun
  | [d1, d2] => { results := [.lit (.bool true)], args := [d1, d2] }
  | _ => none }
def datasetPartsRow : OpenClaim := { program := "ytbmbgfmhejahjaa", sum := "1cbad0ae666f8dcfaff74819f16da3eb6ea30d43997f9313644025f518e6c5c9", func := "hornbeam/hornbeamlaw09.DatasetParts", spec := "datasetParts", inPlace := ["math.Float64frombits", "math.Float64bits"], unfollowed := true, recurses := true, apart := false }
def DatasetPartsSaid : Prop := datasetPartsRow.holds Try.pinned (OpenSpec.ofChange datasetPartsSpec)

/-- ITS FALSE NEIGHBOUR: 'it returns false'. Refute it at one input. -/
def datasetPartsWrong : ChangeSpec := { name := "datasetParts", fn := fun _ => fun
  | [d1, d2] => { results := [.lit (.bool false)], args := [d1, d2] }
  | _ => none }
def DatasetPartsWrongFalsely : Prop := datasetPartsRow.holds Try.pinned (OpenSpec.ofChange datasetPartsWrong)

/- THE SECOND FORM. 'bulk': how many values and letters a reading holds, each counted each time it is reached (what is shared counts as often as it is met; a slice's spare places count too). A statement '..UptoSaid' is the law's where the arguments, and the package variables that the reading takes, are together of bulk at most 1048576: NARROWER than '..Said'. Prove '..Said' where nothing that the law and all that it calls make is longer than what came in: it says more and counts as full. Else prove '..UptoSaid'. A law counts once. -/
mutual
def uptoBulk {H : Type} : DataW H → Nat
  | .lit (.string bytes) => bytes.length + 1
  | .lit _ => 1
  | .nil => 1
  | .ptr d => uptoBulk d + 1
  | .slice elems spare => uptoBulkAll elems + uptoBulkAll spare + 1
  | .agg parts => uptoBulkAll parts + 1
  | .iface _ d => uptoBulk d + 1
  | .map entries => uptoBulkEntries entries + 1
  | .held _ => 1
def uptoBulkAll {H : Type} : List (DataW H) → Nat
  | [] => 0
  | d :: r => uptoBulk d + uptoBulkAll r
def uptoBulkEntries {H : Type} : List (Lit × DataW H) → Nat
  | [] => 0
  | x :: r => uptoBulkEntry x + uptoBulkEntries r
def uptoBulkEntry {H : Type} : Lit × DataW H → Nat
  | (.string bytes, d) => bytes.length + uptoBulk d + 1
  | (_, d) => uptoBulk d + 1
 end
def uptoSmall : (H : Type) → List (DataW H) → Bool := fun _ ds => decide (uptoBulkAll ds ≤ 1048576)
def OpenSpec.upto (s : _root_.Go.ChangeSpec) : _root_.Go.OpenSpec := { _root_.Go.OpenSpec.ofChange s with cond := some uptoSmall }

/-- 'hornbeamlaw09.DatasetPuts', WHERE WHAT IT READS IS OF BULK AT MOST 1048576: true; the input reads as it did. -/
def datasetPutsUptoRow : OpenClaim := { program := "ytbmbgfmhejahjaa", sum := "1cbad0ae666f8dcfaff74819f16da3eb6ea30d43997f9313644025f518e6c5c9", func := "hornbeam/hornbeamlaw09.DatasetPuts", spec := "datasetPuts", inPlace := ["math.Float64frombits", "math.Float64bits"], unfollowed := true, recurses := true, apart := false, narrowed := true }
def DatasetPutsUptoSaid : Prop := datasetPutsUptoRow.holds Try.pinned (OpenSpec.upto datasetPutsSpec)

/-- 'hornbeamlaw09.DatasetGets', WHERE WHAT IT READS IS OF BULK AT MOST 1048576: true; the input reads as it did. -/
def datasetGetsUptoRow : OpenClaim := { program := "ytbmbgfmhejahjaa", sum := "1cbad0ae666f8dcfaff74819f16da3eb6ea30d43997f9313644025f518e6c5c9", func := "hornbeam/hornbeamlaw09.DatasetGets", spec := "datasetGets", inPlace := ["math.Float64frombits", "math.Float64bits"], unfollowed := true, recurses := true, apart := false, narrowed := true }
def DatasetGetsUptoSaid : Prop := datasetGetsUptoRow.holds Try.pinned (OpenSpec.upto datasetGetsSpec)

/-- 'hornbeamlaw09.DatasetCuts', WHERE WHAT IT READS IS OF BULK AT MOST 1048576: true; the input reads as it did. -/
def datasetCutsUptoRow : OpenClaim := { program := "ytbmbgfmhejahjaa", sum := "1cbad0ae666f8dcfaff74819f16da3eb6ea30d43997f9313644025f518e6c5c9", func := "hornbeam/hornbeamlaw09.DatasetCuts", spec := "datasetCuts", inPlace := ["math.Float64frombits", "math.Float64bits"], unfollowed := true, recurses := true, apart := false, narrowed := true }
def DatasetCutsUptoSaid : Prop := datasetCutsUptoRow.holds Try.pinned (OpenSpec.upto datasetCutsSpec)

/-- 'hornbeamlaw09.DatasetParts', WHERE WHAT IT READS IS OF BULK AT MOST 1048576: true; the input reads as it did. -/
def datasetPartsUptoRow : OpenClaim := { program := "ytbmbgfmhejahjaa", sum := "1cbad0ae666f8dcfaff74819f16da3eb6ea30d43997f9313644025f518e6c5c9", func := "hornbeam/hornbeamlaw09.DatasetParts", spec := "datasetParts", inPlace := ["math.Float64frombits", "math.Float64bits"], unfollowed := true, recurses := true, apart := false, narrowed := true }
def DatasetPartsUptoSaid : Prop := datasetPartsUptoRow.holds Try.pinned (OpenSpec.upto datasetPartsSpec)

end Rows
end Go.Proofs.Ytbmbgfmhejahjaa
