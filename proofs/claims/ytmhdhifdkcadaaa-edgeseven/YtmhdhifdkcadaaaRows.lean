/-
  No cell of these rows narrows 'for every input' (looked for: loops, veiled, ifaces, maps, wideKeys, modest, calm, conditions, laid).
  DERIVED. THE GIVEN ROWS OF THIS SEAT. 5 by the template 'for every input the law returns true; each argument reads behind the call as it read before'; 0 by the template 'total and deterministic' (their statements: YtmhdhifdkcadaaaTotals.lean).
  GIVEN WITH THE SEED: the statements are not yours to turn. If you find one false, say at which input.
  Laid BY PROGRAM, IN A SANDBOX (cutbox-rows.mjs): the forced cells as the released guide's own fill.sh prints them over the translation de60bf601214f9bd… (all of the seat's roots in one cut). By AI agents, Wed Nov 11 2026. No macro, syntax, notation, axiom, sorry.
-/
import Derived.Test.YtmhdhifdkcadaaaChecked
import GoSem.Claim
import GoSem.ClaimJoined
import GoSem.ClaimMapViews
import Derived.JoinedTies
import Derived.KernelRfl
namespace Go.Proofs.Ytmhdhifdkcadaaa
/- THE CELL 'sum', in the pinned program and in every row, IS THE sha256 OF THE DUMP (.gsa) THAT YtmhdhifdkcadaaaProg.lean LOADS. Nothing in Lean hashes anything: it is a label: what it is worth is what the hold of that sum in a sandbox is worth. -/
noncomputable def Try.pinned : Pinned := { name := "ytmhdhifdkcadaaa", sum := "de60bf601214f9bd719526b5f34aa064803a542a8ac6c91e144cdc2a1f9207c7", checked := Try.checked }
namespace Rows
def none {H : Type} : Left H := { results := [], args := [] }

/-- 'hornbeamlaw10.EdgesOf': WHATEVER THE INPUT: true; the input reads as it did. -/
def edgesOfSpec : ChangeSpec := { name := "edgesOf", fn := fun _ => fun
  | [d1, d2] => { results := [.lit (.bool true)], args := [d1, d2] }
  | _ => none }
def edgesOfRow : OpenClaim := { program := "ytmhdhifdkcadaaa", sum := "de60bf601214f9bd719526b5f34aa064803a542a8ac6c91e144cdc2a1f9207c7", func := "hornbeam/hornbeamlaw10.EdgesOf", spec := "edgesOf", inPlace := ["math.Float64bits", "math.Float64frombits"], unfollowed := true, recurses := true, apart := false }
def EdgesOfSaid : Prop := edgesOfRow.holds Try.pinned (OpenSpec.ofChange edgesOfSpec)

/-- ITS FALSE NEIGHBOUR: 'it returns false'. Refute it at one input. -/
def edgesOfWrong : ChangeSpec := { name := "edgesOf", fn := fun _ => fun
  | [d1, d2] => { results := [.lit (.bool false)], args := [d1, d2] }
  | _ => none }
def EdgesOfWrongFalsely : Prop := edgesOfRow.holds Try.pinned (OpenSpec.ofChange edgesOfWrong)

/-- 'hornbeamlaw10.EdgesBins': WHATEVER THE INPUT: true; the input reads as it did. -/
def edgesBinsSpec : ChangeSpec := { name := "edgesBins", fn := fun _ => fun
  | [d1, d2] => { results := [.lit (.bool true)], args := [d1, d2] }
  | _ => none }
def edgesBinsRow : OpenClaim := { program := "ytmhdhifdkcadaaa", sum := "de60bf601214f9bd719526b5f34aa064803a542a8ac6c91e144cdc2a1f9207c7", func := "hornbeam/hornbeamlaw10.EdgesBins", spec := "edgesBins", inPlace := ["math.Float64bits", "math.Float64frombits"], unfollowed := true, recurses := true, apart := false }
def EdgesBinsSaid : Prop := edgesBinsRow.holds Try.pinned (OpenSpec.ofChange edgesBinsSpec)

/-- ITS FALSE NEIGHBOUR: 'it returns false'. Refute it at one input. -/
def edgesBinsWrong : ChangeSpec := { name := "edgesBins", fn := fun _ => fun
  | [d1, d2] => { results := [.lit (.bool false)], args := [d1, d2] }
  | _ => none }
def EdgesBinsWrongFalsely : Prop := edgesBinsRow.holds Try.pinned (OpenSpec.ofChange edgesBinsWrong)

/-- 'hornbeamlaw10.EdgesCut': WHATEVER THE INPUT: true; the input reads as it did. -/
def edgesCutSpec : ChangeSpec := { name := "edgesCut", fn := fun _ => fun
  | [d1, d2] => { results := [.lit (.bool true)], args := [d1, d2] }
  | _ => none }
def edgesCutRow : OpenClaim := { program := "ytmhdhifdkcadaaa", sum := "de60bf601214f9bd719526b5f34aa064803a542a8ac6c91e144cdc2a1f9207c7", func := "hornbeam/hornbeamlaw10.EdgesCut", spec := "edgesCut", inPlace := ["math.Float64bits", "math.Float64frombits"], unfollowed := true, recurses := true, apart := false }
def EdgesCutSaid : Prop := edgesCutRow.holds Try.pinned (OpenSpec.ofChange edgesCutSpec)

/-- ITS FALSE NEIGHBOUR: 'it returns false'. Refute it at one input. -/
def edgesCutWrong : ChangeSpec := { name := "edgesCut", fn := fun _ => fun
  | [d1, d2] => { results := [.lit (.bool false)], args := [d1, d2] }
  | _ => none }
def EdgesCutWrongFalsely : Prop := edgesCutRow.holds Try.pinned (OpenSpec.ofChange edgesCutWrong)

/-- 'hornbeamlaw10.EdgesEven': WHATEVER THE INPUT: true; the input reads as it did. -/
def edgesEvenSpec : ChangeSpec := { name := "edgesEven", fn := fun _ => fun
  | [d1, d2] => { results := [.lit (.bool true)], args := [d1, d2] }
  | _ => none }
def edgesEvenRow : OpenClaim := { program := "ytmhdhifdkcadaaa", sum := "de60bf601214f9bd719526b5f34aa064803a542a8ac6c91e144cdc2a1f9207c7", func := "hornbeam/hornbeamlaw10.EdgesEven", spec := "edgesEven", inPlace := ["math.Float64bits", "math.Float64frombits"], unfollowed := true, recurses := true, apart := false }
def EdgesEvenSaid : Prop := edgesEvenRow.holds Try.pinned (OpenSpec.ofChange edgesEvenSpec)

/-- ITS FALSE NEIGHBOUR: 'it returns false'. Refute it at one input. -/
def edgesEvenWrong : ChangeSpec := { name := "edgesEven", fn := fun _ => fun
  | [d1, d2] => { results := [.lit (.bool false)], args := [d1, d2] }
  | _ => none }
def EdgesEvenWrongFalsely : Prop := edgesEvenRow.holds Try.pinned (OpenSpec.ofChange edgesEvenWrong)

/-- 'hornbeamlaw10.EdgesOrder': WHATEVER THE INPUT: true; the input reads as it did. -/
def edgesOrderSpec : ChangeSpec := { name := "edgesOrder", fn := fun _ => fun
  | [d1, d2, d3] => { results := [.lit (.bool true)], args := [d1, d2, d3] }
  | _ => none }
def edgesOrderRow : OpenClaim := { program := "ytmhdhifdkcadaaa", sum := "de60bf601214f9bd719526b5f34aa064803a542a8ac6c91e144cdc2a1f9207c7", func := "hornbeam/hornbeamlaw10.EdgesOrder", spec := "edgesOrder", inPlace := ["math.Float64bits", "math.Float64frombits"], unfollowed := true, recurses := true, apart := false }
def EdgesOrderSaid : Prop := edgesOrderRow.holds Try.pinned (OpenSpec.ofChange edgesOrderSpec)

/-- ITS FALSE NEIGHBOUR: 'it returns false'. Refute it at one input. -/
def edgesOrderWrong : ChangeSpec := { name := "edgesOrder", fn := fun _ => fun
  | [d1, d2, d3] => { results := [.lit (.bool false)], args := [d1, d2, d3] }
  | _ => none }
def EdgesOrderWrongFalsely : Prop := edgesOrderRow.holds Try.pinned (OpenSpec.ofChange edgesOrderWrong)

/- THE SECOND FORM. 'bulk': how many values and letters a reading holds, each counted each time it is reached (what is shared counts as often as it is met; a slice's spare places count too). A statement '..UptoSaid' is the law's where the arguments, and the package variables that the reading takes, are together of bulk at most 1048576: NARROWER than '..Said'. Prove '..Said' where nothing that the law and all that it calls make is longer than what came in: it says more and counts as full. Else prove '..UptoSaid'. A law counts once. -/
mutual
def uptoBulk {H : Type} : DataW H → Nat
  | .lit (.string bytes) => bytes.length + 1
  | .lit _ => 1
  | .nil => 1
  | .ptr d => uptoBulk d + 1
  | .slice elems spare => uptoBulkAll elems + uptoBulkAll spare + 1
  | .agg parts => uptoBulkAll parts + 1
  | .iface _ d => uptoBulk d + 1
  | .map entries => uptoBulkEntries entries + 1
  | .held _ => 1
def uptoBulkAll {H : Type} : List (DataW H) → Nat
  | [] => 0
  | d :: r => uptoBulk d + uptoBulkAll r
def uptoBulkEntries {H : Type} : List (Lit × DataW H) → Nat
  | [] => 0
  | x :: r => uptoBulkEntry x + uptoBulkEntries r
def uptoBulkEntry {H : Type} : Lit × DataW H → Nat
  | (.string bytes, d) => bytes.length + uptoBulk d + 1
  | (_, d) => uptoBulk d + 1
 end
def uptoSmall : (H : Type) → List (DataW H) → Bool := fun _ ds => decide (uptoBulkAll ds ≤ 1048576)
def OpenSpec.upto (s : _root_.Go.ChangeSpec) : _root_.Go.OpenSpec := { _root_.Go.OpenSpec.ofChange s with cond := some uptoSmall }

/-- 'hornbeamlaw10.EdgesOf', WHERE WHAT IT READS IS OF BULK AT MOST 1048576: true; the input reads as it did. -/
def edgesOfUptoRow : OpenClaim := { program := "ytmhdhifdkcadaaa", sum := "de60bf601214f9bd719526b5f34aa064803a542a8ac6c91e144cdc2a1f9207c7", func := "hornbeam/hornbeamlaw10.EdgesOf", spec := "edgesOf", inPlace := ["math.Float64bits", "math.Float64frombits"], unfollowed := true, recurses := true, apart := false, narrowed := true }
def EdgesOfUptoSaid : Prop := edgesOfUptoRow.holds Try.pinned (OpenSpec.upto edgesOfSpec)

/-- 'hornbeamlaw10.EdgesBins', WHERE WHAT IT READS IS OF BULK AT MOST 1048576: true; the input reads as it did. -/
def edgesBinsUptoRow : OpenClaim := { program := "ytmhdhifdkcadaaa", sum := "de60bf601214f9bd719526b5f34aa064803a542a8ac6c91e144cdc2a1f9207c7", func := "hornbeam/hornbeamlaw10.EdgesBins", spec := "edgesBins", inPlace := ["math.Float64bits", "math.Float64frombits"], unfollowed := true, recurses := true, apart := false, narrowed := true }
def EdgesBinsUptoSaid : Prop := edgesBinsUptoRow.holds Try.pinned (OpenSpec.upto edgesBinsSpec)

/-- 'hornbeamlaw10.EdgesCut', WHERE WHAT IT READS IS OF BULK AT MOST 1048576: true; the input reads as it did. -/
def edgesCutUptoRow : OpenClaim := { program := "ytmhdhifdkcadaaa", sum := "de60bf601214f9bd719526b5f34aa064803a542a8ac6c91e144cdc2a1f9207c7", func := "hornbeam/hornbeamlaw10.EdgesCut", spec := "edgesCut", inPlace := ["math.Float64bits", "math.Float64frombits"], unfollowed := true, recurses := true, apart := false, narrowed := true }
def EdgesCutUptoSaid : Prop := edgesCutUptoRow.holds Try.pinned (OpenSpec.upto edgesCutSpec)

/-- 'hornbeamlaw10.EdgesEven', WHERE WHAT IT READS IS OF BULK AT MOST 1048576: true; the input reads as it did. -/
def edgesEvenUptoRow : OpenClaim := { program := "ytmhdhifdkcadaaa", sum := "de60bf601214f9bd719526b5f34aa064803a542a8ac6c91e144cdc2a1f9207c7", func := "hornbeam/hornbeamlaw10.EdgesEven", spec := "edgesEven", inPlace := ["math.Float64bits", "math.Float64frombits"], unfollowed := true, recurses := true, apart := false, narrowed := true }
def EdgesEvenUptoSaid : Prop := edgesEvenUptoRow.holds Try.pinned (OpenSpec.upto edgesEvenSpec)

/-- 'hornbeamlaw10.EdgesOrder', WHERE WHAT IT READS IS OF BULK AT MOST 1048576: true; the input reads as it did. -/
def edgesOrderUptoRow : OpenClaim := { program := "ytmhdhifdkcadaaa", sum := "de60bf601214f9bd719526b5f34aa064803a542a8ac6c91e144cdc2a1f9207c7", func := "hornbeam/hornbeamlaw10.EdgesOrder", spec := "edgesOrder", inPlace := ["math.Float64bits", "math.Float64frombits"], unfollowed := true, recurses := true, apart := false, narrowed := true }
def EdgesOrderUptoSaid : Prop := edgesOrderUptoRow.holds Try.pinned (OpenSpec.upto edgesOrderSpec)

end Rows
end Go.Proofs.Ytmhdhifdkcadaaa
