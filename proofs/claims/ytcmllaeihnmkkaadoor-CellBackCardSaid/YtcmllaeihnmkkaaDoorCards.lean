/-
  DERIVED. GIVEN WITH THE SEED: THE CARDS: each row of YtcmllaeihnmkkaaDoorRows.lean that lists a variable, with what it lists TIED to the program's text (the seventh form; the later family's looks); each row that meets fmt, with fmt's text TOLD by the authors' own Lean function (tested against real Go, not proved from fmt's source: count such statements apart). THE CARD IS WHAT COUNTS. Prove the row's statement (the work); the ties are given (YtcmllaeihnmkkaaDoorTie.lean); close each card by the builder's one call (the guide's Derived/Test/ToyasCard.lean, 'card_holds'). Laid BY PROGRAM, IN A SANDBOX (cutbox-door.mjs). By AI agents, Wed Nov 11 2026. No macro, syntax, notation, axiom, sorry.
-/
import Derived.Test.YtcmllaeihnmkkaaDoorRows
import GoSem.ClaimSeven
namespace Go.Proofs.YtcmllaeihnmkkaaDoor
namespace Rows

/-- THE TIED CARD OF 'lyceumlaw05.CellReads'. -/
def cellReadsCard : Claim7 := { stood := { row := cellReadsRow, standIns := [], harness := (true, "d9f3142c2cfca9da845efa8962f2d5f2f108d15111cc168003b5b44fb8e0af0e"), looks := true }, kinds := [], alts := [], laidByText := true, laidKinds := [.data, .handle], laidTests := true, laidLooks := .later }
def CellReadsCardSaid : Prop := Claim7.holds Tryd.pinned (.plain (OpenSpec.ofChange cellReadsSpec)) cellReadsCard

/-- THE TIED CARD OF 'lyceumlaw05.CellBack'. -/
def cellBackCard : Claim7 := { stood := { row := cellBackRow, standIns := [], harness := (true, "d9f3142c2cfca9da845efa8962f2d5f2f108d15111cc168003b5b44fb8e0af0e"), looks := true }, kinds := [], alts := [], laidByText := true, laidKinds := [.data, .handle], laidTests := true, laidLooks := .later }
def CellBackCardSaid : Prop := Claim7.holds Tryd.pinned (.plain (OpenSpec.ofChange cellBackSpec)) cellBackCard

/-- THE TIED CARD OF 'lyceumlaw06.GridPlays'. -/
def gridPlaysCard : Claim7 := { stood := { row := gridPlaysRow, standIns := [], harness := (true, "d9f3142c2cfca9da845efa8962f2d5f2f108d15111cc168003b5b44fb8e0af0e"), looks := true }, kinds := [], alts := [], laidByText := true, laidKinds := [.data], laidTests := true, laidLooks := .later }
def GridPlaysCardSaid : Prop := Claim7.holds Tryd.pinned (.plain (OpenSpec.ofChange gridPlaysSpec)) gridPlaysCard

/-- THE TIED CARD OF 'lyceumlaw06.GridTells'. -/
def gridTellsCard : Claim7 := { stood := { row := gridTellsRow, standIns := [], harness := (true, "d9f3142c2cfca9da845efa8962f2d5f2f108d15111cc168003b5b44fb8e0af0e"), looks := true }, kinds := [], alts := [], laidByText := true, laidKinds := [.data], laidTests := true, laidLooks := .later }
def GridTellsCardSaid : Prop := Claim7.holds Tryd.pinned (.plain (OpenSpec.ofChange gridTellsSpec)) gridTellsCard

/-- THE TIED CARD OF 'lyceumlaw06.GridBeside'. -/
def gridBesideCard : Claim7 := { stood := { row := gridBesideRow, standIns := [], harness := (true, "d9f3142c2cfca9da845efa8962f2d5f2f108d15111cc168003b5b44fb8e0af0e"), looks := true }, kinds := [], alts := [], laidByText := true, laidKinds := [.data], laidTests := true, laidLooks := .later }
def GridBesideCardSaid : Prop := Claim7.holds Tryd.pinned (.plain (OpenSpec.ofChange gridBesideSpec)) gridBesideCard

/-- THE TIED CARD OF 'lyceumlaw06.GridScrolls'. -/
def gridScrollsCard : Claim7 := { stood := { row := gridScrollsRow, standIns := [], harness := (true, "d9f3142c2cfca9da845efa8962f2d5f2f108d15111cc168003b5b44fb8e0af0e"), looks := true }, kinds := [], alts := [], laidByText := true, laidKinds := [.data], laidTests := true, laidLooks := .later }
def GridScrollsCardSaid : Prop := Claim7.holds Tryd.pinned (.plain (OpenSpec.ofChange gridScrollsSpec)) gridScrollsCard

/-- THE TIED CARD OF 'lyceumlaw06.GridLays'. -/
def gridLaysCard : Claim7 := { stood := { row := gridLaysRow, standIns := [], harness := (true, "d9f3142c2cfca9da845efa8962f2d5f2f108d15111cc168003b5b44fb8e0af0e"), looks := true }, kinds := [], alts := [], laidByText := true, laidKinds := [.data], laidTests := true, laidLooks := .later }
def GridLaysCardSaid : Prop := Claim7.holds Tryd.pinned (.plain (OpenSpec.ofChange gridLaysSpec)) gridLaysCard

/-- THE TIED CARD OF 'lyceumlaw06.GridPuts'. -/
def gridPutsCard : Claim7 := { stood := { row := gridPutsRow, standIns := [], harness := (true, "d9f3142c2cfca9da845efa8962f2d5f2f108d15111cc168003b5b44fb8e0af0e"), looks := true }, kinds := [], alts := [], laidByText := true, laidKinds := [.data], laidTests := true, laidLooks := .later }
def GridPutsCardSaid : Prop := Claim7.holds Tryd.pinned (.plain (OpenSpec.ofChange gridPutsSpec)) gridPutsCard

/-- THE SECOND FORM's CARD OF 'lyceumlaw05.CellReads'. -/
def cellReadsUptoCard : Claim7 := { stood := { row := cellReadsUptoRow, standIns := [], harness := (true, "d9f3142c2cfca9da845efa8962f2d5f2f108d15111cc168003b5b44fb8e0af0e"), looks := true }, kinds := [], alts := [], laidByText := true, laidKinds := [.data, .handle], laidTests := true, laidLooks := .later }
def CellReadsUptoCardSaid : Prop := Claim7.holds Tryd.pinned (.plain (OpenSpec.upto cellReadsSpec)) cellReadsUptoCard

/-- THE SECOND FORM's CARD OF 'lyceumlaw05.CellBack'. -/
def cellBackUptoCard : Claim7 := { stood := { row := cellBackUptoRow, standIns := [], harness := (true, "d9f3142c2cfca9da845efa8962f2d5f2f108d15111cc168003b5b44fb8e0af0e"), looks := true }, kinds := [], alts := [], laidByText := true, laidKinds := [.data, .handle], laidTests := true, laidLooks := .later }
def CellBackUptoCardSaid : Prop := Claim7.holds Tryd.pinned (.plain (OpenSpec.upto cellBackSpec)) cellBackUptoCard

/-- THE SECOND FORM's CARD OF 'lyceumlaw06.GridPlays'. -/
def gridPlaysUptoCard : Claim7 := { stood := { row := gridPlaysUptoRow, standIns := [], harness := (true, "d9f3142c2cfca9da845efa8962f2d5f2f108d15111cc168003b5b44fb8e0af0e"), looks := true }, kinds := [], alts := [], laidByText := true, laidKinds := [.data], laidTests := true, laidLooks := .later }
def GridPlaysUptoCardSaid : Prop := Claim7.holds Tryd.pinned (.plain (OpenSpec.upto gridPlaysSpec)) gridPlaysUptoCard

/-- THE SECOND FORM's CARD OF 'lyceumlaw06.GridTells'. -/
def gridTellsUptoCard : Claim7 := { stood := { row := gridTellsUptoRow, standIns := [], harness := (true, "d9f3142c2cfca9da845efa8962f2d5f2f108d15111cc168003b5b44fb8e0af0e"), looks := true }, kinds := [], alts := [], laidByText := true, laidKinds := [.data], laidTests := true, laidLooks := .later }
def GridTellsUptoCardSaid : Prop := Claim7.holds Tryd.pinned (.plain (OpenSpec.upto gridTellsSpec)) gridTellsUptoCard

/-- THE SECOND FORM's CARD OF 'lyceumlaw06.GridBeside'. -/
def gridBesideUptoCard : Claim7 := { stood := { row := gridBesideUptoRow, standIns := [], harness := (true, "d9f3142c2cfca9da845efa8962f2d5f2f108d15111cc168003b5b44fb8e0af0e"), looks := true }, kinds := [], alts := [], laidByText := true, laidKinds := [.data], laidTests := true, laidLooks := .later }
def GridBesideUptoCardSaid : Prop := Claim7.holds Tryd.pinned (.plain (OpenSpec.upto gridBesideSpec)) gridBesideUptoCard

/-- THE SECOND FORM's CARD OF 'lyceumlaw06.GridScrolls'. -/
def gridScrollsUptoCard : Claim7 := { stood := { row := gridScrollsUptoRow, standIns := [], harness := (true, "d9f3142c2cfca9da845efa8962f2d5f2f108d15111cc168003b5b44fb8e0af0e"), looks := true }, kinds := [], alts := [], laidByText := true, laidKinds := [.data], laidTests := true, laidLooks := .later }
def GridScrollsUptoCardSaid : Prop := Claim7.holds Tryd.pinned (.plain (OpenSpec.upto gridScrollsSpec)) gridScrollsUptoCard

/-- THE SECOND FORM's CARD OF 'lyceumlaw06.GridLays'. -/
def gridLaysUptoCard : Claim7 := { stood := { row := gridLaysUptoRow, standIns := [], harness := (true, "d9f3142c2cfca9da845efa8962f2d5f2f108d15111cc168003b5b44fb8e0af0e"), looks := true }, kinds := [], alts := [], laidByText := true, laidKinds := [.data], laidTests := true, laidLooks := .later }
def GridLaysUptoCardSaid : Prop := Claim7.holds Tryd.pinned (.plain (OpenSpec.upto gridLaysSpec)) gridLaysUptoCard

/-- THE SECOND FORM's CARD OF 'lyceumlaw06.GridPuts'. -/
def gridPutsUptoCard : Claim7 := { stood := { row := gridPutsUptoRow, standIns := [], harness := (true, "d9f3142c2cfca9da845efa8962f2d5f2f108d15111cc168003b5b44fb8e0af0e"), looks := true }, kinds := [], alts := [], laidByText := true, laidKinds := [.data], laidTests := true, laidLooks := .later }
def GridPutsUptoCardSaid : Prop := Claim7.holds Tryd.pinned (.plain (OpenSpec.upto gridPutsSpec)) gridPutsUptoCard
end Rows
end Go.Proofs.YtcmllaeihnmkkaaDoor
