/- How wide a character is: runes.Width; the document's lyceumref04.Width. -/
import Derived.Test.YtgnknliaeoblhabDoorRunesLaid
import Derived.Test.YtgnknliaeoblhabDoorRunesMath
import Derived.Test.YtgnknliaeoblhabDoorProg
import Derived.WalkLawsBesides
import Derived.IntWalk
import Derived.KernelRfl
import Derived.Deep.LoopGhost
import Derived.Laws.BitsAll
import Derived.Laws.BitsAllLaws
namespace Go.Proofs.YtgnknliaeoblhabDoor
open Go Go.RowKit

def spA (i : Nat) : Int := (spansTab.getD i []).getD 0 0
def spB (i : Nat) : Int := (spansTab.getD i []).getD 1 0
def spC (i : Nat) : Int := (spansTab.getD i []).getD 2 0
/-- The width that the rows from the i-th one on say. -/
def widthFrom : Nat → Nat → Int → Int
  | 0, _, _ => 1
  | n + 1, i, r => if r < spA i then 1 else if r ≤ spB i then spC i else widthFrom n (i + 1) r
def widthL (r : Int) : Int := widthFrom 18 0 r
noncomputable def spansArr : Array Value := spansCells.toArray
end Go.Proofs.YtgnknliaeoblhabDoor
