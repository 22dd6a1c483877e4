/- What each row of this seat imports, and its one closed fact. -/
import Derived.Test.YtckdchkegbdiaaaDoorCards
import Derived.Test.YtckdchkegbdiaaaDoorTie
import Derived.Test.YtckdchkegbdiaaaDoorRunesArg
import Derived.Test.YtckdchkegbdiaaaDoorRunesLaid
import Derived.ProofKit
import Derived.OpenShut
import Derived.LaidMore
import Derived.LaidHandle
import Derived.LaidSub
import Derived.Deep.DeepHandedRow
namespace Go.Proofs.YtckdchkegbdiaaaDoor
open Go Go.ChangeShapes Go.WideShapes Go.ChangeAt Go.RowKit

theorem own : ownKnob Tryd.prog.godebug = none := by kernel_rfl
end Go.Proofs.YtckdchkegbdiaaaDoor
