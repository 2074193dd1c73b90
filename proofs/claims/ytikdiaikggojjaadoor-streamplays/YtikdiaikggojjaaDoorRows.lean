/-
  NARROWER THAN 'FOR EVERY INPUT', by the rows' own cells (each row's printed sentence says how): StreamPlays: laid · StreamAlone: laid.
  DERIVED. THE GIVEN ROWS OF THIS SEAT. 2 by the template 'for every input the law returns true; each argument reads behind the call as it read before'; 0 by the template 'total and deterministic' (their statements: YtikdiaikggojjaaDoorTotals.lean).
  GIVEN WITH THE SEED: the statements are not yours to turn. If you find one false, say at which input.
  Laid BY PROGRAM, IN A SANDBOX (cutbox-rows.mjs): the forced cells as the released guide's own fill.sh prints them over the translation 8a826309ccf2e5af… (all of the seat's roots in one cut). By AI agents, Wed Nov 11 2026. No macro, syntax, notation, axiom, sorry.
-/
import Derived.Test.YtikdiaikggojjaaDoorChecked
import GoSem.Claim
import GoSem.ClaimJoined
import GoSem.ClaimMapViews
import Derived.JoinedTies
import Derived.KernelRfl
namespace Go.Proofs.YtikdiaikggojjaaDoor
/- THE CELL 'sum', in the pinned program and in every row, IS THE sha256 OF THE DUMP (.gsa) THAT YtikdiaikggojjaaDoorProg.lean LOADS. Nothing in Lean hashes anything: it is a label: what it is worth is what the hold of that sum in a sandbox is worth. -/
noncomputable def Tryd.pinned : Pinned := { name := "ytikdiaikggojjaadoor", sum := "8a826309ccf2e5affb54f1b2755af1469d496af9e35c7d68971c7017eaf65781", checked := Tryd.checked }
namespace Rows
def none {H : Type} : Left H := { results := [], args := [] }

/- WHAT THE LISTED PACKAGE-LEVEL VARIABLES READ AS WHEN THE CALL BEGINS. Each datum BY PROGRAM (the guide's laid-datum.mjs) off the statement by which the dump's own 'gosem.cut.vars' lays the variable. In a bare row this is a premise. The card (YtikdiaikggojjaaDoorCards.lean) ties it to the program's text. -/
def laid_hornbeam_mix_rounds {H : Type} : DataW H := .agg [.agg [.lit (.int .u64 30), .lit (.int .u64 13787848793156543929), .lit (.int .u64 10871156337175269513)], .agg [.lit (.int .u64 27), .lit (.int .u64 10723151780598845931), .lit (.int .u64 3573116690164977347)], .agg [.lit (.int .u64 31), .lit (.int .u64 1), .lit (.int .u64 1)]]

/-- 'hornbeamlaw02.StreamPlays': WHATEVER THE INPUT: true; the input reads as it did. -/
def streamPlaysSpec : ChangeSpec := { name := "streamPlays", fn := fun _ => fun
  | [d1, d2, d3] => { results := [.lit (.bool true)], args := [d1, d2, d3] }
  | _ => none }
def streamPlaysRow : OpenClaim := { program := "ytikdiaikggojjaadoor", sum := "8a826309ccf2e5affb54f1b2755af1469d496af9e35c7d68971c7017eaf65781", func := "hornbeam/hornbeamlaw02.StreamPlays", spec := "streamPlays", unfollowed := true, recurses := true, named := ["hornbeam/mix.rounds"], apart := false, laid := [("hornbeam/mix.rounds", laid_hornbeam_mix_rounds)] }
def StreamPlaysSaid : Prop := streamPlaysRow.holds Tryd.pinned (OpenSpec.ofChange streamPlaysSpec)

/-- ITS FALSE NEIGHBOUR: 'it returns false'. Refute it at one input. -/
def streamPlaysWrong : ChangeSpec := { name := "streamPlays", fn := fun _ => fun
  | [d1, d2, d3] => { results := [.lit (.bool false)], args := [d1, d2, d3] }
  | _ => none }
def StreamPlaysWrongFalsely : Prop := streamPlaysRow.holds Tryd.pinned (OpenSpec.ofChange streamPlaysWrong)

/-- 'hornbeamlaw02.StreamAlone': WHATEVER THE INPUT: true; the input reads as it did. -/
def streamAloneSpec : ChangeSpec := { name := "streamAlone", fn := fun _ => fun
  | [d1, d2, d3] => { results := [.lit (.bool true)], args := [d1, d2, d3] }
  | _ => none }
def streamAloneRow : OpenClaim := { program := "ytikdiaikggojjaadoor", sum := "8a826309ccf2e5affb54f1b2755af1469d496af9e35c7d68971c7017eaf65781", func := "hornbeam/hornbeamlaw02.StreamAlone", spec := "streamAlone", unfollowed := true, recurses := true, named := ["hornbeam/mix.rounds"], apart := false, laid := [("hornbeam/mix.rounds", laid_hornbeam_mix_rounds)] }
def StreamAloneSaid : Prop := streamAloneRow.holds Tryd.pinned (OpenSpec.ofChange streamAloneSpec)

/-- ITS FALSE NEIGHBOUR: 'it returns false'. Refute it at one input. -/
def streamAloneWrong : ChangeSpec := { name := "streamAlone", fn := fun _ => fun
  | [d1, d2, d3] => { results := [.lit (.bool false)], args := [d1, d2, d3] }
  | _ => none }
def StreamAloneWrongFalsely : Prop := streamAloneRow.holds Tryd.pinned (OpenSpec.ofChange streamAloneWrong)

/- THE SECOND FORM. 'bulk': how many values and letters a reading holds, each counted each time it is reached (what is shared counts as often as it is met; a slice's spare places count too). A statement '..UptoSaid' is the law's where the arguments, and the package variables that the reading takes, are together of bulk at most 1048576: NARROWER than '..Said'. Prove '..Said' where nothing that the law and all that it calls make is longer than what came in: it says more and counts as full. Else prove '..UptoSaid'. A law counts once. -/
mutual
def uptoBulk {H : Type} : DataW H → Nat
  | .lit (.string bytes) => bytes.length + 1
  | .lit _ => 1
  | .nil => 1
  | .ptr d => uptoBulk d + 1
  | .slice elems spare => uptoBulkAll elems + uptoBulkAll spare + 1
  | .agg parts => uptoBulkAll parts + 1
  | .iface _ d => uptoBulk d + 1
  | .map entries => uptoBulkEntries entries + 1
  | .held _ => 1
def uptoBulkAll {H : Type} : List (DataW H) → Nat
  | [] => 0
  | d :: r => uptoBulk d + uptoBulkAll r
def uptoBulkEntries {H : Type} : List (Lit × DataW H) → Nat
  | [] => 0
  | x :: r => uptoBulkEntry x + uptoBulkEntries r
def uptoBulkEntry {H : Type} : Lit × DataW H → Nat
  | (.string bytes, d) => bytes.length + uptoBulk d + 1
  | (_, d) => uptoBulk d + 1
 end
def uptoSmall : (H : Type) → List (DataW H) → Bool := fun _ ds => decide (uptoBulkAll ds ≤ 1048576)
def OpenSpec.upto (s : _root_.Go.ChangeSpec) : _root_.Go.OpenSpec := { _root_.Go.OpenSpec.ofChange s with cond := some uptoSmall }

/-- 'hornbeamlaw02.StreamPlays', WHERE WHAT IT READS IS OF BULK AT MOST 1048576: true; the input reads as it did. -/
def streamPlaysUptoRow : OpenClaim := { program := "ytikdiaikggojjaadoor", sum := "8a826309ccf2e5affb54f1b2755af1469d496af9e35c7d68971c7017eaf65781", func := "hornbeam/hornbeamlaw02.StreamPlays", spec := "streamPlays", unfollowed := true, recurses := true, named := ["hornbeam/mix.rounds"], apart := false, laid := [("hornbeam/mix.rounds", laid_hornbeam_mix_rounds)], narrowed := true }
def StreamPlaysUptoSaid : Prop := streamPlaysUptoRow.holds Tryd.pinned (OpenSpec.upto streamPlaysSpec)

/-- 'hornbeamlaw02.StreamAlone', WHERE WHAT IT READS IS OF BULK AT MOST 1048576: true; the input reads as it did. -/
def streamAloneUptoRow : OpenClaim := { program := "ytikdiaikggojjaadoor", sum := "8a826309ccf2e5affb54f1b2755af1469d496af9e35c7d68971c7017eaf65781", func := "hornbeam/hornbeamlaw02.StreamAlone", spec := "streamAlone", unfollowed := true, recurses := true, named := ["hornbeam/mix.rounds"], apart := false, laid := [("hornbeam/mix.rounds", laid_hornbeam_mix_rounds)], narrowed := true }
def StreamAloneUptoSaid : Prop := streamAloneUptoRow.holds Tryd.pinned (OpenSpec.upto streamAloneSpec)

end Rows
end Go.Proofs.YtikdiaikggojjaaDoor
