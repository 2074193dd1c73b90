/-
  DERIVED. GIVEN WITH THE SEED: THE CARDS: each row of YthaiijnoefoadaaDoorRows.lean that lists a variable, with what it lists TIED to the program's text (the seventh form; the later family's looks); each row that meets fmt, with fmt's text TOLD by the authors' own Lean function (tested against real Go, not proved from fmt's source: count such statements apart). THE CARD IS WHAT COUNTS. Prove the row's statement (the work); the ties are given (YthaiijnoefoadaaDoorTie.lean); close each card by the builder's one call (the guide's Derived/Test/ToyasCard.lean, 'card_holds'). Laid BY PROGRAM, IN A SANDBOX (cutbox-door.mjs). By AI agents, Wed Nov 11 2026. No macro, syntax, notation, axiom, sorry.
-/
import Derived.Test.YthaiijnoefoadaaDoorRows
import GoSem.ClaimSeven
namespace Go.Proofs.YthaiijnoefoadaaDoor
namespace Rows

/-- THE TIED CARD OF 'hornbeamlaw01.MixPlays'. -/
def mixPlaysCard : Claim7 := { stood := { row := mixPlaysRow, standIns := [], harness := (true, "c76ed5c6a455bb4ed39edee0ae282c3d738559ca64d8a745fc34d6b5336b9414"), looks := false }, kinds := [], alts := [], laidByText := true, laidKinds := [.data], laidTests := true, laidLooks := .later }
def MixPlaysCardSaid : Prop := Claim7.holds Tryd.pinned (.plain (OpenSpec.ofChange mixPlaysSpec)) mixPlaysCard

/-- THE TIED CARD OF 'hornbeamlaw01.MixBack'. -/
def mixBackCard : Claim7 := { stood := { row := mixBackRow, standIns := [], harness := (true, "c76ed5c6a455bb4ed39edee0ae282c3d738559ca64d8a745fc34d6b5336b9414"), looks := false }, kinds := [], alts := [], laidByText := true, laidKinds := [.data], laidTests := true, laidLooks := .later }
def MixBackCardSaid : Prop := Claim7.holds Tryd.pinned (.plain (OpenSpec.ofChange mixBackSpec)) mixBackCard

/-- THE TIED CARD OF 'hornbeamlaw01.MixApart'. -/
def mixApartCard : Claim7 := { stood := { row := mixApartRow, standIns := [], harness := (true, "c76ed5c6a455bb4ed39edee0ae282c3d738559ca64d8a745fc34d6b5336b9414"), looks := false }, kinds := [], alts := [], laidByText := true, laidKinds := [.data], laidTests := true, laidLooks := .later }
def MixApartCardSaid : Prop := Claim7.holds Tryd.pinned (.plain (OpenSpec.ofChange mixApartSpec)) mixApartCard

/-- THE TIED CARD OF 'hornbeamlaw01.MixParts'. -/
def mixPartsCard : Claim7 := { stood := { row := mixPartsRow, standIns := [], harness := (true, "c76ed5c6a455bb4ed39edee0ae282c3d738559ca64d8a745fc34d6b5336b9414"), looks := false }, kinds := [], alts := [], laidByText := true, laidKinds := [.data], laidTests := true, laidLooks := .later }
def MixPartsCardSaid : Prop := Claim7.holds Tryd.pinned (.plain (OpenSpec.ofChange mixPartsSpec)) mixPartsCard

/-- THE SECOND FORM's CARD OF 'hornbeamlaw01.MixPlays'. -/
def mixPlaysUptoCard : Claim7 := { stood := { row := mixPlaysUptoRow, standIns := [], harness := (true, "c76ed5c6a455bb4ed39edee0ae282c3d738559ca64d8a745fc34d6b5336b9414"), looks := false }, kinds := [], alts := [], laidByText := true, laidKinds := [.data], laidTests := true, laidLooks := .later }
def MixPlaysUptoCardSaid : Prop := Claim7.holds Tryd.pinned (.plain (OpenSpec.upto mixPlaysSpec)) mixPlaysUptoCard

/-- THE SECOND FORM's CARD OF 'hornbeamlaw01.MixBack'. -/
def mixBackUptoCard : Claim7 := { stood := { row := mixBackUptoRow, standIns := [], harness := (true, "c76ed5c6a455bb4ed39edee0ae282c3d738559ca64d8a745fc34d6b5336b9414"), looks := false }, kinds := [], alts := [], laidByText := true, laidKinds := [.data], laidTests := true, laidLooks := .later }
def MixBackUptoCardSaid : Prop := Claim7.holds Tryd.pinned (.plain (OpenSpec.upto mixBackSpec)) mixBackUptoCard

/-- THE SECOND FORM's CARD OF 'hornbeamlaw01.MixApart'. -/
def mixApartUptoCard : Claim7 := { stood := { row := mixApartUptoRow, standIns := [], harness := (true, "c76ed5c6a455bb4ed39edee0ae282c3d738559ca64d8a745fc34d6b5336b9414"), looks := false }, kinds := [], alts := [], laidByText := true, laidKinds := [.data], laidTests := true, laidLooks := .later }
def MixApartUptoCardSaid : Prop := Claim7.holds Tryd.pinned (.plain (OpenSpec.upto mixApartSpec)) mixApartUptoCard

/-- THE SECOND FORM's CARD OF 'hornbeamlaw01.MixParts'. -/
def mixPartsUptoCard : Claim7 := { stood := { row := mixPartsUptoRow, standIns := [], harness := (true, "c76ed5c6a455bb4ed39edee0ae282c3d738559ca64d8a745fc34d6b5336b9414"), looks := false }, kinds := [], alts := [], laidByText := true, laidKinds := [.data], laidTests := true, laidLooks := .later }
def MixPartsUptoCardSaid : Prop := Claim7.holds Tryd.pinned (.plain (OpenSpec.upto mixPartsSpec)) mixPartsUptoCard
end Rows
end Go.Proofs.YthaiijnoefoadaaDoor
