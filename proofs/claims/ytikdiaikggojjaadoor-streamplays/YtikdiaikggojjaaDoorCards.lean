/-
  DERIVED. GIVEN WITH THE SEED: THE CARDS: each row of YtikdiaikggojjaaDoorRows.lean that lists a variable, with what it lists TIED to the program's text (the seventh form; the later family's looks); each row that meets fmt, with fmt's text TOLD by the authors' own Lean function (tested against real Go, not proved from fmt's source: count such statements apart). THE CARD IS WHAT COUNTS. Prove the row's statement (the work); the ties are given (YtikdiaikggojjaaDoorTie.lean); close each card by the builder's one call (the guide's Derived/Test/ToyasCard.lean, 'card_holds'). Laid BY PROGRAM, IN A SANDBOX (cutbox-door.mjs). By AI agents, Wed Nov 11 2026. No macro, syntax, notation, axiom, sorry.
-/
import Derived.Test.YtikdiaikggojjaaDoorRows
import GoSem.ClaimSeven
namespace Go.Proofs.YtikdiaikggojjaaDoor
namespace Rows

/-- THE TIED CARD OF 'hornbeamlaw02.StreamPlays'. -/
def streamPlaysCard : Claim7 := { stood := { row := streamPlaysRow, standIns := [], harness := (true, "d2568a676d67ec58b47d1ec92e1a8ebc15516028aa9a96ef4587ded8280dfa39"), looks := false }, kinds := [], alts := [], laidByText := true, laidKinds := [.data], laidTests := true, laidLooks := .later }
def StreamPlaysCardSaid : Prop := Claim7.holds Tryd.pinned (.plain (OpenSpec.ofChange streamPlaysSpec)) streamPlaysCard

/-- THE TIED CARD OF 'hornbeamlaw02.StreamAlone'. -/
def streamAloneCard : Claim7 := { stood := { row := streamAloneRow, standIns := [], harness := (true, "d2568a676d67ec58b47d1ec92e1a8ebc15516028aa9a96ef4587ded8280dfa39"), looks := false }, kinds := [], alts := [], laidByText := true, laidKinds := [.data], laidTests := true, laidLooks := .later }
def StreamAloneCardSaid : Prop := Claim7.holds Tryd.pinned (.plain (OpenSpec.ofChange streamAloneSpec)) streamAloneCard

/-- THE SECOND FORM's CARD OF 'hornbeamlaw02.StreamPlays'. -/
def streamPlaysUptoCard : Claim7 := { stood := { row := streamPlaysUptoRow, standIns := [], harness := (true, "d2568a676d67ec58b47d1ec92e1a8ebc15516028aa9a96ef4587ded8280dfa39"), looks := false }, kinds := [], alts := [], laidByText := true, laidKinds := [.data], laidTests := true, laidLooks := .later }
def StreamPlaysUptoCardSaid : Prop := Claim7.holds Tryd.pinned (.plain (OpenSpec.upto streamPlaysSpec)) streamPlaysUptoCard

/-- THE SECOND FORM's CARD OF 'hornbeamlaw02.StreamAlone'. -/
def streamAloneUptoCard : Claim7 := { stood := { row := streamAloneUptoRow, standIns := [], harness := (true, "d2568a676d67ec58b47d1ec92e1a8ebc15516028aa9a96ef4587ded8280dfa39"), looks := false }, kinds := [], alts := [], laidByText := true, laidKinds := [.data], laidTests := true, laidLooks := .later }
def StreamAloneUptoCardSaid : Prop := Claim7.holds Tryd.pinned (.plain (OpenSpec.upto streamAloneSpec)) streamAloneUptoCard
end Rows
end Go.Proofs.YtikdiaikggojjaaDoor
