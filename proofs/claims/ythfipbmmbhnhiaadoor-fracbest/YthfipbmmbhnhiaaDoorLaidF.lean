/-
  What the listed tables give: the library's table of powers of ten, as its text lays it; and a world that has them. Condition: the variables read as listed.
-/
import Derived.Test.YthfipbmmbhnhiaaDoorFmtLay
import Derived.ProofKit
import Derived.LaidMore
import Derived.OpenShut
import Derived.ShutString
import Derived.Stop.Joined
import Derived.Stop.LaidErr
import Derived.ChangeOld
import Derived.Below
namespace Go.Proofs.YthfipbmmbhnhiaaDoor
open Go.ChangeShapes Go.WideShapes Go.ChangeAt Go.RowKit

/-- The variables that the rows list, with what they read as. -/
abbrev L3 : List (String × DataW Unit) := Rows.fracOrderRow.laid
theorem L3_last : L3.tail.tail = [(Rows.fracOrderRow.named.head!, Lib.tabData .u64 Lib.pow10Tab)] := by kernel_rfl

theorem tab_of_laid {W : World} (h : laidMetH Tryd.prog L3 W) : Tab W := by
  rw [MakeChecks.laidMetH_plain _ _ _ (by kernel_rfl)] at h
  have h2 : laidMet Tryd.prog L3.tail.tail W := laidMet.tail (laidMet.tail h)
  rw [L3_last] at h2
  exact Lib.tabIs_of_head gTab (by kernel_rfl) Tryd.underlying75 Tryd.underlying22 (by kernel_rfl) (by kernel_rfl) h2

theorem own : ownKnob Tryd.prog.godebug = none := by kernel_rfl
theorem laidOut : laidOutB Tryd.prog = true := by kernel_rfl

/-- The heap that the door's own run leaves meets the condition. -/
theorem door_met (os : Os) (args : Array Value) : laidMetH Tryd.prog L3 ((World.doorLaid Tryd.prog 400 os).forCall (fun _ _ => 0) ⟨#[], args, []⟩).memory :=
  laidMetH_of_parts3 (fuel := 8) (laidMet_of_run' 8 (by kernel_rfl) (by kernel_rfl)) (by kernel_rfl) (by kernel_rfl)

theorem in_u64 {x : Int} (h : (Lit.int .u64 x).wf = true) : Word x := by
  have := bounds_u64 h
  unfold Word
  omega
theorem in_i64 {x : Int} (h : (Lit.int .i64 x).wf = true) : Whole x := by
  have := bounds_i64 h
  unfold Whole
  omega
end Go.Proofs.YthfipbmmbhnhiaaDoor
