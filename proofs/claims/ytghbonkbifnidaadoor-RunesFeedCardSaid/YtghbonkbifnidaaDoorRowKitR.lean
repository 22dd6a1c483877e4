/- What each row of this seat imports, and its one closed fact. -/
import Derived.Test.YtghbonkbifnidaaDoorCards
import Derived.Test.YtghbonkbifnidaaDoorTie
import Derived.Test.YtghbonkbifnidaaDoorRunesArg
import Derived.Test.YtghbonkbifnidaaDoorRunesLaid
import Derived.ProofKit
import Derived.OpenShut
import Derived.LaidMore
import Derived.LaidHandle
import Derived.LaidSub
import Derived.Deep.DeepHandedRow
namespace Go.Proofs.YtghbonkbifnidaaDoor
open Go Go.ChangeShapes Go.WideShapes Go.ChangeAt Go.RowKit

theorem own : ownKnob Tryd.prog.godebug = none := by kernel_rfl
end Go.Proofs.YtghbonkbifnidaaDoor
