/-
  DERIVED. GIVEN WITH THE SEED: THE CARDS: each row of YtgnknliaeoblhabDoorRows.lean that lists a variable, with what it lists TIED to the program's text (the seventh form; the later family's looks); each row that meets fmt, with fmt's text TOLD by the authors' own Lean function (tested against real Go, not proved from fmt's source: count such statements apart). THE CARD IS WHAT COUNTS. Prove the row's statement (the work); the ties are given (YtgnknliaeoblhabDoorTie.lean); close each card by the builder's one call (the guide's Derived/Test/ToyasCard.lean, 'card_holds'). Laid BY PROGRAM, IN A SANDBOX (cutbox-door.mjs). By AI agents, Wed Nov 11 2026. No macro, syntax, notation, axiom, sorry.
-/
import Derived.Test.YtgnknliaeoblhabDoorRows
import GoSem.ClaimSeven
namespace Go.Proofs.YtgnknliaeoblhabDoor
namespace Rows

/-- THE TIED CARD OF 'lyceumlaw08.PenSets'. -/
def penSetsCard : Claim7 := { stood := { row := penSetsRow, standIns := [], harness := (true, "15a9d5cdf15adbf76359c8d42b5269f85d76b19073d066219e3bca623540e7a9"), looks := false }, kinds := [], alts := [], laidByText := true, laidKinds := [.data, .data, .data, .data], laidTests := true, laidLooks := .later }
def PenSetsCardSaid : Prop := Claim7.holds Tryd.pinned (.plain (OpenSpec.ofChange penSetsSpec)) penSetsCard

/-- THE TIED CARD OF 'lyceumlaw08.PenLeaves'. -/
def penLeavesCard : Claim7 := { stood := { row := penLeavesRow, standIns := [], harness := (true, "15a9d5cdf15adbf76359c8d42b5269f85d76b19073d066219e3bca623540e7a9"), looks := false }, kinds := [], alts := [], laidByText := true, laidKinds := [.data], laidTests := true, laidLooks := .later }
def PenLeavesCardSaid : Prop := Claim7.holds Tryd.pinned (.plain (OpenSpec.ofChange penLeavesSpec)) penLeavesCard

/-- THE TIED CARD OF 'lyceumlaw08.PenParts'. -/
def penPartsCard : Claim7 := { stood := { row := penPartsRow, standIns := [], harness := (true, "15a9d5cdf15adbf76359c8d42b5269f85d76b19073d066219e3bca623540e7a9"), looks := false }, kinds := [], alts := [], laidByText := true, laidKinds := [.data], laidTests := true, laidLooks := .later }
def PenPartsCardSaid : Prop := Claim7.holds Tryd.pinned (.plain (OpenSpec.ofChange penPartsSpec)) penPartsCard

/-- THE TIED CARD OF 'lyceumlaw08.PenColours'. -/
def penColoursCard : Claim7 := { stood := { row := penColoursRow, standIns := [], harness := (true, "15a9d5cdf15adbf76359c8d42b5269f85d76b19073d066219e3bca623540e7a9"), looks := false }, kinds := [], alts := [], laidByText := true, laidKinds := [.data], laidTests := true, laidLooks := .later }
def PenColoursCardSaid : Prop := Claim7.holds Tryd.pinned (.plain (OpenSpec.ofChange penColoursSpec)) penColoursCard

/-- THE SECOND FORM's CARD OF 'lyceumlaw08.PenSets'. -/
def penSetsUptoCard : Claim7 := { stood := { row := penSetsUptoRow, standIns := [], harness := (true, "15a9d5cdf15adbf76359c8d42b5269f85d76b19073d066219e3bca623540e7a9"), looks := false }, kinds := [], alts := [], laidByText := true, laidKinds := [.data, .data, .data, .data], laidTests := true, laidLooks := .later }
def PenSetsUptoCardSaid : Prop := Claim7.holds Tryd.pinned (.plain (OpenSpec.upto penSetsSpec)) penSetsUptoCard

/-- THE SECOND FORM's CARD OF 'lyceumlaw08.PenLeaves'. -/
def penLeavesUptoCard : Claim7 := { stood := { row := penLeavesUptoRow, standIns := [], harness := (true, "15a9d5cdf15adbf76359c8d42b5269f85d76b19073d066219e3bca623540e7a9"), looks := false }, kinds := [], alts := [], laidByText := true, laidKinds := [.data], laidTests := true, laidLooks := .later }
def PenLeavesUptoCardSaid : Prop := Claim7.holds Tryd.pinned (.plain (OpenSpec.upto penLeavesSpec)) penLeavesUptoCard

/-- THE SECOND FORM's CARD OF 'lyceumlaw08.PenParts'. -/
def penPartsUptoCard : Claim7 := { stood := { row := penPartsUptoRow, standIns := [], harness := (true, "15a9d5cdf15adbf76359c8d42b5269f85d76b19073d066219e3bca623540e7a9"), looks := false }, kinds := [], alts := [], laidByText := true, laidKinds := [.data], laidTests := true, laidLooks := .later }
def PenPartsUptoCardSaid : Prop := Claim7.holds Tryd.pinned (.plain (OpenSpec.upto penPartsSpec)) penPartsUptoCard

/-- THE SECOND FORM's CARD OF 'lyceumlaw08.PenColours'. -/
def penColoursUptoCard : Claim7 := { stood := { row := penColoursUptoRow, standIns := [], harness := (true, "15a9d5cdf15adbf76359c8d42b5269f85d76b19073d066219e3bca623540e7a9"), looks := false }, kinds := [], alts := [], laidByText := true, laidKinds := [.data], laidTests := true, laidLooks := .later }
def PenColoursUptoCardSaid : Prop := Claim7.holds Tryd.pinned (.plain (OpenSpec.upto penColoursSpec)) penColoursUptoCard
end Rows
end Go.Proofs.YtgnknliaeoblhabDoor
