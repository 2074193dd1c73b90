/-
  No cell of these rows narrows 'for every input' (looked for: loops, veiled, ifaces, maps, wideKeys, modest, calm, conditions, laid).
  DERIVED. THE GIVEN ROWS OF THIS SEAT. 6 by the template 'for every input the law returns true; each argument reads behind the call as it read before'; 0 by the template 'total and deterministic' (their statements: YtmhggfgbefjcmaaTotals.lean).
  GIVEN WITH THE SEED: the statements are not yours to turn. If you find one false, say at which input.
  Laid BY PROGRAM, IN A SANDBOX (cutbox-rows.mjs): the forced cells as the released guide's own fill.sh prints them over the translation b597743dc31355b4… (all of the seat's roots in one cut). By AI agents, Wed Nov 11 2026. No macro, syntax, notation, axiom, sorry.
-/
import Derived.Test.YtmhggfgbefjcmaaChecked
import GoSem.Claim
import GoSem.ClaimJoined
import GoSem.ClaimMapViews
import Derived.JoinedTies
import Derived.KernelRfl
namespace Go.Proofs.Ytmhggfgbefjcmaa
/- THE CELL 'sum', in the pinned program and in every row, IS THE sha256 OF THE DUMP (.gsa) THAT YtmhggfgbefjcmaaProg.lean LOADS. Nothing in Lean hashes anything: it is a label: what it is worth is what the hold of that sum in a sandbox is worth. -/
noncomputable def Try.pinned : Pinned := { name := "ytmhggfgbefjcmaa", sum := "b597743dc31355b4077f8718c70399146e6d22b51c5d5e3f6c80f01eed981d7e", checked := Try.checked }
namespace Rows
def none {H : Type} : Left H := { results := [], args := [] }

/-- 'hornbeamlaw03.DealPerms': WHATEVER THE INPUT: true; the input reads as it did. -/
def dealPermsSpec : ChangeSpec := { name := "dealPerms", fn := fun _ => fun
  | [d1, d2] => { results := [.lit (.bool true)], args := [d1, d2] }
  | _ => none }
def dealPermsRow : OpenClaim := { program := "ytmhggfgbefjcmaa", sum := "b597743dc31355b4077f8718c70399146e6d22b51c5d5e3f6c80f01eed981d7e", func := "hornbeam/hornbeamlaw03.DealPerms", spec := "dealPerms", unfollowed := true, recurses := true, apart := false }
def DealPermsSaid : Prop := dealPermsRow.holds Try.pinned (OpenSpec.ofChange dealPermsSpec)

/-- ITS FALSE NEIGHBOUR: 'it returns false'. Refute it at one input. -/
def dealPermsWrong : ChangeSpec := { name := "dealPerms", fn := fun _ => fun
  | [d1, d2] => { results := [.lit (.bool false)], args := [d1, d2] }
  | _ => none }
def DealPermsWrongFalsely : Prop := dealPermsRow.holds Try.pinned (OpenSpec.ofChange dealPermsWrong)

/-- 'hornbeamlaw03.DealChooses': WHATEVER THE INPUT: true; the input reads as it did. -/
def dealChoosesSpec : ChangeSpec := { name := "dealChooses", fn := fun _ => fun
  | [d1, d2, d3] => { results := [.lit (.bool true)], args := [d1, d2, d3] }
  | _ => none }
def dealChoosesRow : OpenClaim := { program := "ytmhggfgbefjcmaa", sum := "b597743dc31355b4077f8718c70399146e6d22b51c5d5e3f6c80f01eed981d7e", func := "hornbeam/hornbeamlaw03.DealChooses", spec := "dealChooses", unfollowed := true, recurses := true, apart := false }
def DealChoosesSaid : Prop := dealChoosesRow.holds Try.pinned (OpenSpec.ofChange dealChoosesSpec)

/-- ITS FALSE NEIGHBOUR: 'it returns false'. Refute it at one input. -/
def dealChoosesWrong : ChangeSpec := { name := "dealChooses", fn := fun _ => fun
  | [d1, d2, d3] => { results := [.lit (.bool false)], args := [d1, d2, d3] }
  | _ => none }
def DealChoosesWrongFalsely : Prop := dealChoosesRow.holds Try.pinned (OpenSpec.ofChange dealChoosesWrong)

/-- 'hornbeamlaw03.DealDeals': WHATEVER THE INPUT: true; the input reads as it did. -/
def dealDealsSpec : ChangeSpec := { name := "dealDeals", fn := fun _ => fun
  | [d1, d2] => { results := [.lit (.bool true)], args := [d1, d2] }
  | _ => none }
def dealDealsRow : OpenClaim := { program := "ytmhggfgbefjcmaa", sum := "b597743dc31355b4077f8718c70399146e6d22b51c5d5e3f6c80f01eed981d7e", func := "hornbeam/hornbeamlaw03.DealDeals", spec := "dealDeals", unfollowed := true, recurses := true, apart := false }
def DealDealsSaid : Prop := dealDealsRow.holds Try.pinned (OpenSpec.ofChange dealDealsSpec)

/-- ITS FALSE NEIGHBOUR: 'it returns false'. Refute it at one input. -/
def dealDealsWrong : ChangeSpec := { name := "dealDeals", fn := fun _ => fun
  | [d1, d2] => { results := [.lit (.bool false)], args := [d1, d2] }
  | _ => none }
def DealDealsWrongFalsely : Prop := dealDealsRow.holds Try.pinned (OpenSpec.ofChange dealDealsWrong)

/-- 'hornbeamlaw03.DealOnce': WHATEVER THE INPUT: true; the input reads as it did. -/
def dealOnceSpec : ChangeSpec := { name := "dealOnce", fn := fun _ => fun
  | [d1, d2, d3] => { results := [.lit (.bool true)], args := [d1, d2, d3] }
  | _ => none }
def dealOnceRow : OpenClaim := { program := "ytmhggfgbefjcmaa", sum := "b597743dc31355b4077f8718c70399146e6d22b51c5d5e3f6c80f01eed981d7e", func := "hornbeam/hornbeamlaw03.DealOnce", spec := "dealOnce", unfollowed := true, recurses := true, apart := false }
def DealOnceSaid : Prop := dealOnceRow.holds Try.pinned (OpenSpec.ofChange dealOnceSpec)

/-- ITS FALSE NEIGHBOUR: 'it returns false'. Refute it at one input. -/
def dealOnceWrong : ChangeSpec := { name := "dealOnce", fn := fun _ => fun
  | [d1, d2, d3] => { results := [.lit (.bool false)], args := [d1, d2, d3] }
  | _ => none }
def DealOnceWrongFalsely : Prop := dealOnceRow.holds Try.pinned (OpenSpec.ofChange dealOnceWrong)

/-- 'hornbeamlaw03.DealAll': WHATEVER THE INPUT: true; the input reads as it did. -/
def dealAllSpec : ChangeSpec := { name := "dealAll", fn := fun _ => fun
  | [d1, d2] => { results := [.lit (.bool true)], args := [d1, d2] }
  | _ => none }
def dealAllRow : OpenClaim := { program := "ytmhggfgbefjcmaa", sum := "b597743dc31355b4077f8718c70399146e6d22b51c5d5e3f6c80f01eed981d7e", func := "hornbeam/hornbeamlaw03.DealAll", spec := "dealAll", unfollowed := true, recurses := true, apart := false }
def DealAllSaid : Prop := dealAllRow.holds Try.pinned (OpenSpec.ofChange dealAllSpec)

/-- ITS FALSE NEIGHBOUR: 'it returns false'. Refute it at one input. -/
def dealAllWrong : ChangeSpec := { name := "dealAll", fn := fun _ => fun
  | [d1, d2] => { results := [.lit (.bool false)], args := [d1, d2] }
  | _ => none }
def DealAllWrongFalsely : Prop := dealAllRow.holds Try.pinned (OpenSpec.ofChange dealAllWrong)

/-- 'hornbeamlaw03.DealApart': WHATEVER THE INPUT: true; the input reads as it did. -/
def dealApartSpec : ChangeSpec := { name := "dealApart", fn := fun _ => fun
  | [d1, d2] => { results := [.lit (.bool true)], args := [d1, d2] }
  | _ => none }
def dealApartRow : OpenClaim := { program := "ytmhggfgbefjcmaa", sum := "b597743dc31355b4077f8718c70399146e6d22b51c5d5e3f6c80f01eed981d7e", func := "hornbeam/hornbeamlaw03.DealApart", spec := "dealApart", unfollowed := true, recurses := true, apart := false }
def DealApartSaid : Prop := dealApartRow.holds Try.pinned (OpenSpec.ofChange dealApartSpec)

/-- ITS FALSE NEIGHBOUR: 'it returns false'. Refute it at one input. -/
def dealApartWrong : ChangeSpec := { name := "dealApart", fn := fun _ => fun
  | [d1, d2] => { results := [.lit (.bool false)], args := [d1, d2] }
  | _ => none }
def DealApartWrongFalsely : Prop := dealApartRow.holds Try.pinned (OpenSpec.ofChange dealApartWrong)

/- THE SECOND FORM. 'bulk': how many values and letters a reading holds, each counted each time it is reached (what is shared counts as often as it is met; a slice's spare places count too). A statement '..UptoSaid' is the law's where the arguments, and the package variables that the reading takes, are together of bulk at most 1048576: NARROWER than '..Said'. Prove '..Said' where nothing that the law and all that it calls make is longer than what came in: it says more and counts as full. Else prove '..UptoSaid'. A law counts once. -/
mutual
def uptoBulk {H : Type} : DataW H → Nat
  | .lit (.string bytes) => bytes.length + 1
  | .lit _ => 1
  | .nil => 1
  | .ptr d => uptoBulk d + 1
  | .slice elems spare => uptoBulkAll elems + uptoBulkAll spare + 1
  | .agg parts => uptoBulkAll parts + 1
  | .iface _ d => uptoBulk d + 1
  | .map entries => uptoBulkEntries entries + 1
  | .held _ => 1
def uptoBulkAll {H : Type} : List (DataW H) → Nat
  | [] => 0
  | d :: r => uptoBulk d + uptoBulkAll r
def uptoBulkEntries {H : Type} : List (Lit × DataW H) → Nat
  | [] => 0
  | x :: r => uptoBulkEntry x + uptoBulkEntries r
def uptoBulkEntry {H : Type} : Lit × DataW H → Nat
  | (.string bytes, d) => bytes.length + uptoBulk d + 1
  | (_, d) => uptoBulk d + 1
 end
def uptoSmall : (H : Type) → List (DataW H) → Bool := fun _ ds => decide (uptoBulkAll ds ≤ 1048576)
def OpenSpec.upto (s : _root_.Go.ChangeSpec) : _root_.Go.OpenSpec := { _root_.Go.OpenSpec.ofChange s with cond := some uptoSmall }

/-- 'hornbeamlaw03.DealPerms', WHERE WHAT IT READS IS OF BULK AT MOST 1048576: true; the input reads as it did. -/
def dealPermsUptoRow : OpenClaim := { program := "ytmhggfgbefjcmaa", sum := "b597743dc31355b4077f8718c70399146e6d22b51c5d5e3f6c80f01eed981d7e", func := "hornbeam/hornbeamlaw03.DealPerms", spec := "dealPerms", unfollowed := true, recurses := true, apart := false, narrowed := true }
def DealPermsUptoSaid : Prop := dealPermsUptoRow.holds Try.pinned (OpenSpec.upto dealPermsSpec)

/-- 'hornbeamlaw03.DealChooses', WHERE WHAT IT READS IS OF BULK AT MOST 1048576: true; the input reads as it did. -/
def dealChoosesUptoRow : OpenClaim := { program := "ytmhggfgbefjcmaa", sum := "b597743dc31355b4077f8718c70399146e6d22b51c5d5e3f6c80f01eed981d7e", func := "hornbeam/hornbeamlaw03.DealChooses", spec := "dealChooses", unfollowed := true, recurses := true, apart := false, narrowed := true }
def DealChoosesUptoSaid : Prop := dealChoosesUptoRow.holds Try.pinned (OpenSpec.upto dealChoosesSpec)

/-- 'hornbeamlaw03.DealDeals', WHERE WHAT IT READS IS OF BULK AT MOST 1048576: true; the input reads as it did. -/
def dealDealsUptoRow : OpenClaim := { program := "ytmhggfgbefjcmaa", sum := "b597743dc31355b4077f8718c70399146e6d22b51c5d5e3f6c80f01eed981d7e", func := "hornbeam/hornbeamlaw03.DealDeals", spec := "dealDeals", unfollowed := true, recurses := true, apart := false, narrowed := true }
def DealDealsUptoSaid : Prop := dealDealsUptoRow.holds Try.pinned (OpenSpec.upto dealDealsSpec)

/-- 'hornbeamlaw03.DealOnce', WHERE WHAT IT READS IS OF BULK AT MOST 1048576: true; the input reads as it did. -/
def dealOnceUptoRow : OpenClaim := { program := "ytmhggfgbefjcmaa", sum := "b597743dc31355b4077f8718c70399146e6d22b51c5d5e3f6c80f01eed981d7e", func := "hornbeam/hornbeamlaw03.DealOnce", spec := "dealOnce", unfollowed := true, recurses := true, apart := false, narrowed := true }
def DealOnceUptoSaid : Prop := dealOnceUptoRow.holds Try.pinned (OpenSpec.upto dealOnceSpec)

/-- 'hornbeamlaw03.DealAll', WHERE WHAT IT READS IS OF BULK AT MOST 1048576: true; the input reads as it did. -/
def dealAllUptoRow : OpenClaim := { program := "ytmhggfgbefjcmaa", sum := "b597743dc31355b4077f8718c70399146e6d22b51c5d5e3f6c80f01eed981d7e", func := "hornbeam/hornbeamlaw03.DealAll", spec := "dealAll", unfollowed := true, recurses := true, apart := false, narrowed := true }
def DealAllUptoSaid : Prop := dealAllUptoRow.holds Try.pinned (OpenSpec.upto dealAllSpec)

/-- 'hornbeamlaw03.DealApart', WHERE WHAT IT READS IS OF BULK AT MOST 1048576: true; the input reads as it did. -/
def dealApartUptoRow : OpenClaim := { program := "ytmhggfgbefjcmaa", sum := "b597743dc31355b4077f8718c70399146e6d22b51c5d5e3f6c80f01eed981d7e", func := "hornbeam/hornbeamlaw03.DealApart", spec := "dealApart", unfollowed := true, recurses := true, apart := false, narrowed := true }
def DealApartUptoSaid : Prop := dealApartUptoRow.holds Try.pinned (OpenSpec.upto dealApartSpec)

end Rows
end Go.Proofs.Ytmhggfgbefjcmaa
