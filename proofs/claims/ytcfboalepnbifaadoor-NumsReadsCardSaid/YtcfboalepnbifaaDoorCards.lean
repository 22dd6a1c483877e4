/-
  DERIVED. GIVEN WITH THE SEED: THE CARDS: each row of YtcfboalepnbifaaDoorRows.lean that lists a variable, with what it lists TIED to the program's text (the seventh form; the later family's looks); each row that meets fmt, with fmt's text TOLD by the authors' own Lean function (tested against real Go, not proved from fmt's source: count such statements apart). THE CARD IS WHAT COUNTS. Prove the row's statement (the work); the ties are given (YtcfboalepnbifaaDoorTie.lean); close each card by the builder's one call (the guide's Derived/Test/ToyasCard.lean, 'card_holds'). Laid BY PROGRAM, IN A SANDBOX (cutbox-door.mjs). By AI agents, Wed Nov 11 2026. No macro, syntax, notation, axiom, sorry.
-/
import Derived.Test.YtcfboalepnbifaaDoorRows
import GoSem.ClaimSeven
namespace Go.Proofs.YtcfboalepnbifaaDoor
namespace Rows

/-- THE TIED CARD OF 'lyceumlaw03.NumsReads'. -/
def numsReadsCard : Claim7 := { stood := { row := numsReadsRow, standIns := [], harness := (true, "920d1b4f1e68f15c5db9775f3c9480c126813cc62cc5d562ad826e2ba2e99306"), looks := true }, kinds := [], alts := [], laidByText := true, laidKinds := [.handle], laidTests := true, laidLooks := .later }
def NumsReadsCardSaid : Prop := Claim7.holds Tryd.pinned (.plain (OpenSpec.ofChange numsReadsSpec)) numsReadsCard

/-- THE TIED CARD OF 'lyceumlaw03.NumsBack'. -/
def numsBackCard : Claim7 := { stood := { row := numsBackRow, standIns := [], harness := (true, "920d1b4f1e68f15c5db9775f3c9480c126813cc62cc5d562ad826e2ba2e99306"), looks := true }, kinds := [], alts := [], laidByText := true, laidKinds := [.handle], laidTests := true, laidLooks := .later }
def NumsBackCardSaid : Prop := Claim7.holds Tryd.pinned (.plain (OpenSpec.ofChange numsBackSpec)) numsBackCard

/-- THE TIED CARD OF 'lyceumlaw03.NumsOnce'. -/
def numsOnceCard : Claim7 := { stood := { row := numsOnceRow, standIns := [], harness := (true, "920d1b4f1e68f15c5db9775f3c9480c126813cc62cc5d562ad826e2ba2e99306"), looks := true }, kinds := [], alts := [], laidByText := true, laidKinds := [.handle], laidTests := true, laidLooks := .later }
def NumsOnceCardSaid : Prop := Claim7.holds Tryd.pinned (.plain (OpenSpec.ofChange numsOnceSpec)) numsOnceCard

/-- THE TIED CARD OF 'lyceumlaw03.NumsNil'. -/
def numsNilCard : Claim7 := { stood := { row := numsNilRow, standIns := [], harness := (true, "920d1b4f1e68f15c5db9775f3c9480c126813cc62cc5d562ad826e2ba2e99306"), looks := true }, kinds := [], alts := [], laidByText := true, laidKinds := [.handle], laidTests := true, laidLooks := .later }
def NumsNilCardSaid : Prop := Claim7.holds Tryd.pinned (.plain (OpenSpec.ofChange numsNilSpec)) numsNilCard

/-- THE SECOND FORM's CARD OF 'lyceumlaw03.NumsReads'. -/
def numsReadsUptoCard : Claim7 := { stood := { row := numsReadsUptoRow, standIns := [], harness := (true, "920d1b4f1e68f15c5db9775f3c9480c126813cc62cc5d562ad826e2ba2e99306"), looks := true }, kinds := [], alts := [], laidByText := true, laidKinds := [.handle], laidTests := true, laidLooks := .later }
def NumsReadsUptoCardSaid : Prop := Claim7.holds Tryd.pinned (.plain (OpenSpec.upto numsReadsSpec)) numsReadsUptoCard

/-- THE SECOND FORM's CARD OF 'lyceumlaw03.NumsBack'. -/
def numsBackUptoCard : Claim7 := { stood := { row := numsBackUptoRow, standIns := [], harness := (true, "920d1b4f1e68f15c5db9775f3c9480c126813cc62cc5d562ad826e2ba2e99306"), looks := true }, kinds := [], alts := [], laidByText := true, laidKinds := [.handle], laidTests := true, laidLooks := .later }
def NumsBackUptoCardSaid : Prop := Claim7.holds Tryd.pinned (.plain (OpenSpec.upto numsBackSpec)) numsBackUptoCard

/-- THE SECOND FORM's CARD OF 'lyceumlaw03.NumsOnce'. -/
def numsOnceUptoCard : Claim7 := { stood := { row := numsOnceUptoRow, standIns := [], harness := (true, "920d1b4f1e68f15c5db9775f3c9480c126813cc62cc5d562ad826e2ba2e99306"), looks := true }, kinds := [], alts := [], laidByText := true, laidKinds := [.handle], laidTests := true, laidLooks := .later }
def NumsOnceUptoCardSaid : Prop := Claim7.holds Tryd.pinned (.plain (OpenSpec.upto numsOnceSpec)) numsOnceUptoCard

/-- THE SECOND FORM's CARD OF 'lyceumlaw03.NumsNil'. -/
def numsNilUptoCard : Claim7 := { stood := { row := numsNilUptoRow, standIns := [], harness := (true, "920d1b4f1e68f15c5db9775f3c9480c126813cc62cc5d562ad826e2ba2e99306"), looks := true }, kinds := [], alts := [], laidByText := true, laidKinds := [.handle], laidTests := true, laidLooks := .later }
def NumsNilUptoCardSaid : Prop := Claim7.holds Tryd.pinned (.plain (OpenSpec.upto numsNilSpec)) numsNilUptoCard
end Rows
end Go.Proofs.YtcfboalepnbifaaDoor
