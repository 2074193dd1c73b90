/-
  No cell of these rows narrows 'for every input' (looked for: loops, veiled, ifaces, maps, wideKeys, modest, calm, conditions, laid).
  DERIVED. THE GIVEN ROWS OF THIS SEAT. 5 by the template 'for every input the law returns true; each argument reads behind the call as it read before'; 0 by the template 'total and deterministic' (their statements: YtogfoagnknkdaaaTotals.lean).
  GIVEN WITH THE SEED: the statements are not yours to turn. If you find one false, say at which input.
  Laid BY PROGRAM, IN A SANDBOX (cutbox-rows.mjs): the forced cells as the released guide's own fill.sh prints them over the translation e9e1b4ed42ccd169… (all of the seat's roots in one cut). By AI agents, Wed Nov 11 2026. No macro, syntax, notation, axiom, sorry.
-/
import Derived.Test.YtogfoagnknkdaaaChecked
import GoSem.Claim
import GoSem.ClaimJoined
import GoSem.ClaimMapViews
import Derived.JoinedTies
import Derived.KernelRfl
namespace Go.Proofs.Ytogfoagnknkdaaa
/- THE CELL 'sum', in the pinned program and in every row, IS THE sha256 OF THE DUMP (.gsa) THAT YtogfoagnknkdaaaProg.lean LOADS. Nothing in Lean hashes anything: it is a label: what it is worth is what the hold of that sum in a sandbox is worth. -/
noncomputable def Try.pinned : Pinned := { name := "ytogfoagnknkdaaa", sum := "e9e1b4ed42ccd169d0054b1b68ce893b063017637ccaf643f6aa518ab3d52571", checked := Try.checked }
namespace Rows
def none {H : Type} : Left H := { results := [], args := [] }

/-- 'hornbeamlaw06.RankKeys': WHATEVER THE INPUT: true; the input reads as it did. -/
def rankKeysSpec : ChangeSpec := { name := "rankKeys", fn := fun _ => fun
  | [d] => { results := [.lit (.bool true)], args := [d] }
  | _ => none }
def rankKeysRow : OpenClaim := { program := "ytogfoagnknkdaaa", sum := "e9e1b4ed42ccd169d0054b1b68ce893b063017637ccaf643f6aa518ab3d52571", func := "hornbeam/hornbeamlaw06.RankKeys", spec := "rankKeys", inPlace := ["math.Float64frombits", "math.Float64bits"], apart := false }
def RankKeysSaid : Prop := rankKeysRow.holds Try.pinned (OpenSpec.ofChange rankKeysSpec)

/-- ITS FALSE NEIGHBOUR: 'it returns false'. Refute it at one input. -/
def rankKeysWrong : ChangeSpec := { name := "rankKeys", fn := fun _ => fun
  | [d] => { results := [.lit (.bool false)], args := [d] }
  | _ => none }
def RankKeysWrongFalsely : Prop := rankKeysRow.holds Try.pinned (OpenSpec.ofChange rankKeysWrong)

/-- 'hornbeamlaw06.RankOf': WHATEVER THE INPUT: true; the input reads as it did. -/
def rankOfSpec : ChangeSpec := { name := "rankOf", fn := fun _ => fun
  | [d] => { results := [.lit (.bool true)], args := [d] }
  | _ => none }
def rankOfRow : OpenClaim := { program := "ytogfoagnknkdaaa", sum := "e9e1b4ed42ccd169d0054b1b68ce893b063017637ccaf643f6aa518ab3d52571", func := "hornbeam/hornbeamlaw06.RankOf", spec := "rankOf", inPlace := ["math.Float64frombits", "math.Float64bits"], apart := false }
def RankOfSaid : Prop := rankOfRow.holds Try.pinned (OpenSpec.ofChange rankOfSpec)

/-- ITS FALSE NEIGHBOUR: 'it returns false'. Refute it at one input. -/
def rankOfWrong : ChangeSpec := { name := "rankOf", fn := fun _ => fun
  | [d] => { results := [.lit (.bool false)], args := [d] }
  | _ => none }
def RankOfWrongFalsely : Prop := rankOfRow.holds Try.pinned (OpenSpec.ofChange rankOfWrong)

/-- 'hornbeamlaw06.RankOrder': WHATEVER THE INPUT: true; the input reads as it did. -/
def rankOrderSpec : ChangeSpec := { name := "rankOrder", fn := fun _ => fun
  | [d1, d2] => { results := [.lit (.bool true)], args := [d1, d2] }
  | _ => none }
def rankOrderRow : OpenClaim := { program := "ytogfoagnknkdaaa", sum := "e9e1b4ed42ccd169d0054b1b68ce893b063017637ccaf643f6aa518ab3d52571", func := "hornbeam/hornbeamlaw06.RankOrder", spec := "rankOrder", inPlace := ["math.Float64frombits", "math.Float64bits"], apart := false }
def RankOrderSaid : Prop := rankOrderRow.holds Try.pinned (OpenSpec.ofChange rankOrderSpec)

/-- ITS FALSE NEIGHBOUR: 'it returns false'. Refute it at one input. -/
def rankOrderWrong : ChangeSpec := { name := "rankOrder", fn := fun _ => fun
  | [d1, d2] => { results := [.lit (.bool false)], args := [d1, d2] }
  | _ => none }
def RankOrderWrongFalsely : Prop := rankOrderRow.holds Try.pinned (OpenSpec.ofChange rankOrderWrong)

/-- 'hornbeamlaw06.RankSorts': WHATEVER THE INPUT: true; the input reads as it did. -/
def rankSortsSpec : ChangeSpec := { name := "rankSorts", fn := fun _ => fun
  | [d] => { results := [.lit (.bool true)], args := [d] }
  | _ => none }
def rankSortsRow : OpenClaim := { program := "ytogfoagnknkdaaa", sum := "e9e1b4ed42ccd169d0054b1b68ce893b063017637ccaf643f6aa518ab3d52571", func := "hornbeam/hornbeamlaw06.RankSorts", spec := "rankSorts", inPlace := ["math.Float64frombits", "math.Float64bits"], recurses := true, apart := false }
def RankSortsSaid : Prop := rankSortsRow.holds Try.pinned (OpenSpec.ofChange rankSortsSpec)

/-- ITS FALSE NEIGHBOUR: 'it returns false'. Refute it at one input. -/
def rankSortsWrong : ChangeSpec := { name := "rankSorts", fn := fun _ => fun
  | [d] => { results := [.lit (.bool false)], args := [d] }
  | _ => none }
def RankSortsWrongFalsely : Prop := rankSortsRow.holds Try.pinned (OpenSpec.ofChange rankSortsWrong)

/-- 'hornbeamlaw06.RankChains': WHATEVER THE INPUT: true; the input reads as it did. -/
def rankChainsSpec : ChangeSpec := { name := "rankChains", fn := fun _ => fun
  | [d1, d2, d3] => { results := [.lit (.bool true)], args := [d1, d2, d3] }
  | _ => none }
def rankChainsRow : OpenClaim := { program := "ytogfoagnknkdaaa", sum := "e9e1b4ed42ccd169d0054b1b68ce893b063017637ccaf643f6aa518ab3d52571", func := "hornbeam/hornbeamlaw06.RankChains", spec := "rankChains", inPlace := ["math.Float64frombits", "math.Float64bits"], apart := false }
def RankChainsSaid : Prop := rankChainsRow.holds Try.pinned (OpenSpec.ofChange rankChainsSpec)

/-- ITS FALSE NEIGHBOUR: 'it returns false'. Refute it at one input. -/
def rankChainsWrong : ChangeSpec := { name := "rankChains", fn := fun _ => fun
  | [d1, d2, d3] => { results := [.lit (.bool false)], args := [d1, d2, d3] }
  | _ => none }
def RankChainsWrongFalsely : Prop := rankChainsRow.holds Try.pinned (OpenSpec.ofChange rankChainsWrong)

/- THE SECOND FORM. 'bulk': how many values and letters a reading holds, each counted each time it is reached (what is shared counts as often as it is met; a slice's spare places count too). A statement '..UptoSaid' is the law's where the arguments, and the package variables that the reading takes, are together of bulk at most 1048576: NARROWER than '..Said'. Prove '..Said' where nothing that the law and all that it calls make is longer than what came in: it says more and counts as full. Else prove '..UptoSaid'. A law counts once. -/
mutual
def uptoBulk {H : Type} : DataW H → Nat
  | .lit (.string bytes) => bytes.length + 1
  | .lit _ => 1
  | .nil => 1
  | .ptr d => uptoBulk d + 1
  | .slice elems spare => uptoBulkAll elems + uptoBulkAll spare + 1
  | .agg parts => uptoBulkAll parts + 1
  | .iface _ d => uptoBulk d + 1
  | .map entries => uptoBulkEntries entries + 1
  | .held _ => 1
def uptoBulkAll {H : Type} : List (DataW H) → Nat
  | [] => 0
  | d :: r => uptoBulk d + uptoBulkAll r
def uptoBulkEntries {H : Type} : List (Lit × DataW H) → Nat
  | [] => 0
  | x :: r => uptoBulkEntry x + uptoBulkEntries r
def uptoBulkEntry {H : Type} : Lit × DataW H → Nat
  | (.string bytes, d) => bytes.length + uptoBulk d + 1
  | (_, d) => uptoBulk d + 1
 end
def uptoSmall : (H : Type) → List (DataW H) → Bool := fun _ ds => decide (uptoBulkAll ds ≤ 1048576)
def OpenSpec.upto (s : _root_.Go.ChangeSpec) : _root_.Go.OpenSpec := { _root_.Go.OpenSpec.ofChange s with cond := some uptoSmall }

/-- 'hornbeamlaw06.RankKeys', WHERE WHAT IT READS IS OF BULK AT MOST 1048576: true; the input reads as it did. -/
def rankKeysUptoRow : OpenClaim := { program := "ytogfoagnknkdaaa", sum := "e9e1b4ed42ccd169d0054b1b68ce893b063017637ccaf643f6aa518ab3d52571", func := "hornbeam/hornbeamlaw06.RankKeys", spec := "rankKeys", inPlace := ["math.Float64frombits", "math.Float64bits"], apart := false, narrowed := true }
def RankKeysUptoSaid : Prop := rankKeysUptoRow.holds Try.pinned (OpenSpec.upto rankKeysSpec)

/-- 'hornbeamlaw06.RankOf', WHERE WHAT IT READS IS OF BULK AT MOST 1048576: true; the input reads as it did. -/
def rankOfUptoRow : OpenClaim := { program := "ytogfoagnknkdaaa", sum := "e9e1b4ed42ccd169d0054b1b68ce893b063017637ccaf643f6aa518ab3d52571", func := "hornbeam/hornbeamlaw06.RankOf", spec := "rankOf", inPlace := ["math.Float64frombits", "math.Float64bits"], apart := false, narrowed := true }
def RankOfUptoSaid : Prop := rankOfUptoRow.holds Try.pinned (OpenSpec.upto rankOfSpec)

/-- 'hornbeamlaw06.RankOrder', WHERE WHAT IT READS IS OF BULK AT MOST 1048576: true; the input reads as it did. -/
def rankOrderUptoRow : OpenClaim := { program := "ytogfoagnknkdaaa", sum := "e9e1b4ed42ccd169d0054b1b68ce893b063017637ccaf643f6aa518ab3d52571", func := "hornbeam/hornbeamlaw06.RankOrder", spec := "rankOrder", inPlace := ["math.Float64frombits", "math.Float64bits"], apart := false, narrowed := true }
def RankOrderUptoSaid : Prop := rankOrderUptoRow.holds Try.pinned (OpenSpec.upto rankOrderSpec)

/-- 'hornbeamlaw06.RankSorts', WHERE WHAT IT READS IS OF BULK AT MOST 1048576: true; the input reads as it did. -/
def rankSortsUptoRow : OpenClaim := { program := "ytogfoagnknkdaaa", sum := "e9e1b4ed42ccd169d0054b1b68ce893b063017637ccaf643f6aa518ab3d52571", func := "hornbeam/hornbeamlaw06.RankSorts", spec := "rankSorts", inPlace := ["math.Float64frombits", "math.Float64bits"], recurses := true, apart := false, narrowed := true }
def RankSortsUptoSaid : Prop := rankSortsUptoRow.holds Try.pinned (OpenSpec.upto rankSortsSpec)

/-- 'hornbeamlaw06.RankChains', WHERE WHAT IT READS IS OF BULK AT MOST 1048576: true; the input reads as it did. -/
def rankChainsUptoRow : OpenClaim := { program := "ytogfoagnknkdaaa", sum := "e9e1b4ed42ccd169d0054b1b68ce893b063017637ccaf643f6aa518ab3d52571", func := "hornbeam/hornbeamlaw06.RankChains", spec := "rankChains", inPlace := ["math.Float64frombits", "math.Float64bits"], apart := false, narrowed := true }
def RankChainsUptoSaid : Prop := rankChainsUptoRow.holds Try.pinned (OpenSpec.upto rankChainsSpec)

end Rows
end Go.Proofs.Ytogfoagnknkdaaa
