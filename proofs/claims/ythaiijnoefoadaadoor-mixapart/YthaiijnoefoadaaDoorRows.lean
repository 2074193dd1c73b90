/-
  NARROWER THAN 'FOR EVERY INPUT', by the rows' own cells (each row's printed sentence says how): MixPlays: laid · MixBack: laid · MixApart: laid · MixParts: laid.
  DERIVED. THE GIVEN ROWS OF THIS SEAT. 4 by the template 'for every input the law returns true; each argument reads behind the call as it read before'; 0 by the template 'total and deterministic' (their statements: YthaiijnoefoadaaDoorTotals.lean).
  GIVEN WITH THE SEED: the statements are not yours to turn. If you find one false, say at which input.
  Laid BY PROGRAM, IN A SANDBOX (cutbox-rows.mjs): the forced cells as the released guide's own fill.sh prints them over the translation 70673d792522fd6a… (all of the seat's roots in one cut). By AI agents, Wed Nov 11 2026. No macro, syntax, notation, axiom, sorry.
-/
import Derived.Test.YthaiijnoefoadaaDoorChecked
import GoSem.Claim
import GoSem.ClaimJoined
import GoSem.ClaimMapViews
import Derived.JoinedTies
import Derived.KernelRfl
namespace Go.Proofs.YthaiijnoefoadaaDoor
/- THE CELL 'sum', in the pinned program and in every row, IS THE sha256 OF THE DUMP (.gsa) THAT YthaiijnoefoadaaDoorProg.lean LOADS. Nothing in Lean hashes anything: it is a label: what it is worth is what the hold of that sum in a sandbox is worth. -/
noncomputable def Tryd.pinned : Pinned := { name := "ythaiijnoefoadaadoor", sum := "70673d792522fd6ae8858a8b1e2566d69f2d7c011bae036f070d449761aaae17", checked := Tryd.checked }
namespace Rows
def none {H : Type} : Left H := { results := [], args := [] }

/- WHAT THE LISTED PACKAGE-LEVEL VARIABLES READ AS WHEN THE CALL BEGINS. Each datum BY PROGRAM (the guide's laid-datum.mjs) off the statement by which the dump's own 'gosem.cut.vars' lays the variable. In a bare row this is a premise. The card (YthaiijnoefoadaaDoorCards.lean) ties it to the program's text. -/
def laid_hornbeam_mix_rounds {H : Type} : DataW H := .agg [.agg [.lit (.int .u64 30), .lit (.int .u64 13787848793156543929), .lit (.int .u64 10871156337175269513)], .agg [.lit (.int .u64 27), .lit (.int .u64 10723151780598845931), .lit (.int .u64 3573116690164977347)], .agg [.lit (.int .u64 31), .lit (.int .u64 1), .lit (.int .u64 1)]]

/-- 'hornbeamlaw01.MixPlays': WHATEVER THE INPUT: true; the input reads as it did. -/
def mixPlaysSpec : ChangeSpec := { name := "mixPlays", fn := fun _ => fun
  | [d1, d2] => { results := [.lit (.bool true)], args := [d1, d2] }
  | _ => none }
def mixPlaysRow : OpenClaim := { program := "ythaiijnoefoadaadoor", sum := "70673d792522fd6ae8858a8b1e2566d69f2d7c011bae036f070d449761aaae17", func := "hornbeam/hornbeamlaw01.MixPlays", spec := "mixPlays", unfollowed := true, recurses := true, named := ["hornbeam/mix.rounds"], apart := false, laid := [("hornbeam/mix.rounds", laid_hornbeam_mix_rounds)] }
def MixPlaysSaid : Prop := mixPlaysRow.holds Tryd.pinned (OpenSpec.ofChange mixPlaysSpec)

/-- ITS FALSE NEIGHBOUR: 'it returns false'. Refute it at one input. -/
def mixPlaysWrong : ChangeSpec := { name := "mixPlays", fn := fun _ => fun
  | [d1, d2] => { results := [.lit (.bool false)], args := [d1, d2] }
  | _ => none }
def MixPlaysWrongFalsely : Prop := mixPlaysRow.holds Tryd.pinned (OpenSpec.ofChange mixPlaysWrong)

/-- 'hornbeamlaw01.MixBack': WHATEVER THE INPUT: true; the input reads as it did. -/
def mixBackSpec : ChangeSpec := { name := "mixBack", fn := fun _ => fun
  | [d] => { results := [.lit (.bool true)], args := [d] }
  | _ => none }
def mixBackRow : OpenClaim := { program := "ythaiijnoefoadaadoor", sum := "70673d792522fd6ae8858a8b1e2566d69f2d7c011bae036f070d449761aaae17", func := "hornbeam/hornbeamlaw01.MixBack", spec := "mixBack", unfollowed := true, recurses := true, named := ["hornbeam/mix.rounds"], apart := false, laid := [("hornbeam/mix.rounds", laid_hornbeam_mix_rounds)] }
def MixBackSaid : Prop := mixBackRow.holds Tryd.pinned (OpenSpec.ofChange mixBackSpec)

/-- ITS FALSE NEIGHBOUR: 'it returns false'. Refute it at one input. -/
def mixBackWrong : ChangeSpec := { name := "mixBack", fn := fun _ => fun
  | [d] => { results := [.lit (.bool false)], args := [d] }
  | _ => none }
def MixBackWrongFalsely : Prop := mixBackRow.holds Tryd.pinned (OpenSpec.ofChange mixBackWrong)

/-- 'hornbeamlaw01.MixApart': WHATEVER THE INPUT: true; the input reads as it did. -/
def mixApartSpec : ChangeSpec := { name := "mixApart", fn := fun _ => fun
  | [d1, d2, d3] => { results := [.lit (.bool true)], args := [d1, d2, d3] }
  | _ => none }
def mixApartRow : OpenClaim := { program := "ythaiijnoefoadaadoor", sum := "70673d792522fd6ae8858a8b1e2566d69f2d7c011bae036f070d449761aaae17", func := "hornbeam/hornbeamlaw01.MixApart", spec := "mixApart", unfollowed := true, recurses := true, named := ["hornbeam/mix.rounds"], apart := false, laid := [("hornbeam/mix.rounds", laid_hornbeam_mix_rounds)] }
def MixApartSaid : Prop := mixApartRow.holds Tryd.pinned (OpenSpec.ofChange mixApartSpec)

/-- ITS FALSE NEIGHBOUR: 'it returns false'. Refute it at one input. -/
def mixApartWrong : ChangeSpec := { name := "mixApart", fn := fun _ => fun
  | [d1, d2, d3] => { results := [.lit (.bool false)], args := [d1, d2, d3] }
  | _ => none }
def MixApartWrongFalsely : Prop := mixApartRow.holds Tryd.pinned (OpenSpec.ofChange mixApartWrong)

/-- 'hornbeamlaw01.MixParts': WHATEVER THE INPUT: true; the input reads as it did. -/
def mixPartsSpec : ChangeSpec := { name := "mixParts", fn := fun _ => fun
  | [d1, d2] => { results := [.lit (.bool true)], args := [d1, d2] }
  | _ => none }
def mixPartsRow : OpenClaim := { program := "ythaiijnoefoadaadoor", sum := "70673d792522fd6ae8858a8b1e2566d69f2d7c011bae036f070d449761aaae17", func := "hornbeam/hornbeamlaw01.MixParts", spec := "mixParts", unfollowed := true, recurses := true, named := ["hornbeam/mix.rounds"], apart := false, laid := [("hornbeam/mix.rounds", laid_hornbeam_mix_rounds)] }
def MixPartsSaid : Prop := mixPartsRow.holds Tryd.pinned (OpenSpec.ofChange mixPartsSpec)

/-- ITS FALSE NEIGHBOUR: 'it returns false'. Refute it at one input. -/
def mixPartsWrong : ChangeSpec := { name := "mixParts", fn := fun _ => fun
  | [d1, d2] => { results := [.lit (.bool false)], args := [d1, d2] }
  | _ => none }
def MixPartsWrongFalsely : Prop := mixPartsRow.holds Tryd.pinned (OpenSpec.ofChange mixPartsWrong)

/- THE SECOND FORM. 'bulk': how many values and letters a reading holds, each counted each time it is reached (what is shared counts as often as it is met; a slice's spare places count too). A statement '..UptoSaid' is the law's where the arguments, and the package variables that the reading takes, are together of bulk at most 1048576: NARROWER than '..Said'. Prove '..Said' where nothing that the law and all that it calls make is longer than what came in: it says more and counts as full. Else prove '..UptoSaid'. A law counts once. -/
mutual
def uptoBulk {H : Type} : DataW H → Nat
  | .lit (.string bytes) => bytes.length + 1
  | .lit _ => 1
  | .nil => 1
  | .ptr d => uptoBulk d + 1
  | .slice elems spare => uptoBulkAll elems + uptoBulkAll spare + 1
  | .agg parts => uptoBulkAll parts + 1
  | .iface _ d => uptoBulk d + 1
  | .map entries => uptoBulkEntries entries + 1
  | .held _ => 1
def uptoBulkAll {H : Type} : List (DataW H) → Nat
  | [] => 0
  | d :: r => uptoBulk d + uptoBulkAll r
def uptoBulkEntries {H : Type} : List (Lit × DataW H) → Nat
  | [] => 0
  | x :: r => uptoBulkEntry x + uptoBulkEntries r
def uptoBulkEntry {H : Type} : Lit × DataW H → Nat
  | (.string bytes, d) => bytes.length + uptoBulk d + 1
  | (_, d) => uptoBulk d + 1
 end
def uptoSmall : (H : Type) → List (DataW H) → Bool := fun _ ds => decide (uptoBulkAll ds ≤ 1048576)
def OpenSpec.upto (s : _root_.Go.ChangeSpec) : _root_.Go.OpenSpec := { _root_.Go.OpenSpec.ofChange s with cond := some uptoSmall }

/-- 'hornbeamlaw01.MixPlays', WHERE WHAT IT READS IS OF BULK AT MOST 1048576: true; the input reads as it did. -/
def mixPlaysUptoRow : OpenClaim := { program := "ythaiijnoefoadaadoor", sum := "70673d792522fd6ae8858a8b1e2566d69f2d7c011bae036f070d449761aaae17", func := "hornbeam/hornbeamlaw01.MixPlays", spec := "mixPlays", unfollowed := true, recurses := true, named := ["hornbeam/mix.rounds"], apart := false, laid := [("hornbeam/mix.rounds", laid_hornbeam_mix_rounds)], narrowed := true }
def MixPlaysUptoSaid : Prop := mixPlaysUptoRow.holds Tryd.pinned (OpenSpec.upto mixPlaysSpec)

/-- 'hornbeamlaw01.MixBack', WHERE WHAT IT READS IS OF BULK AT MOST 1048576: true; the input reads as it did. -/
def mixBackUptoRow : OpenClaim := { program := "ythaiijnoefoadaadoor", sum := "70673d792522fd6ae8858a8b1e2566d69f2d7c011bae036f070d449761aaae17", func := "hornbeam/hornbeamlaw01.MixBack", spec := "mixBack", unfollowed := true, recurses := true, named := ["hornbeam/mix.rounds"], apart := false, laid := [("hornbeam/mix.rounds", laid_hornbeam_mix_rounds)], narrowed := true }
def MixBackUptoSaid : Prop := mixBackUptoRow.holds Tryd.pinned (OpenSpec.upto mixBackSpec)

/-- 'hornbeamlaw01.MixApart', WHERE WHAT IT READS IS OF BULK AT MOST 1048576: true; the input reads as it did. -/
def mixApartUptoRow : OpenClaim := { program := "ythaiijnoefoadaadoor", sum := "70673d792522fd6ae8858a8b1e2566d69f2d7c011bae036f070d449761aaae17", func := "hornbeam/hornbeamlaw01.MixApart", spec := "mixApart", unfollowed := true, recurses := true, named := ["hornbeam/mix.rounds"], apart := false, laid := [("hornbeam/mix.rounds", laid_hornbeam_mix_rounds)], narrowed := true }
def MixApartUptoSaid : Prop := mixApartUptoRow.holds Tryd.pinned (OpenSpec.upto mixApartSpec)

/-- 'hornbeamlaw01.MixParts', WHERE WHAT IT READS IS OF BULK AT MOST 1048576: true; the input reads as it did. -/
def mixPartsUptoRow : OpenClaim := { program := "ythaiijnoefoadaadoor", sum := "70673d792522fd6ae8858a8b1e2566d69f2d7c011bae036f070d449761aaae17", func := "hornbeam/hornbeamlaw01.MixParts", spec := "mixParts", unfollowed := true, recurses := true, named := ["hornbeam/mix.rounds"], apart := false, laid := [("hornbeam/mix.rounds", laid_hornbeam_mix_rounds)], narrowed := true }
def MixPartsUptoSaid : Prop := mixPartsUptoRow.holds Tryd.pinned (OpenSpec.upto mixPartsSpec)

end Rows
end Go.Proofs.YthaiijnoefoadaaDoor
