/- From the rows' condition on the listed variables to the walks' facts; a world that meets it. -/
import Derived.Test.YtgnknliaeoblhabDoorCards
import Derived.Test.YtgnknliaeoblhabDoorTie
import Derived.Test.YtgnknliaeoblhabDoorLaid
import Derived.ProofKit
import Derived.OpenShut
import Derived.LaidMore
import Derived.LaidHandle
import Derived.LaidSub
import Derived.Deep.DeepHandedRow
namespace Go.Proofs.YtgnknliaeoblhabDoor
open Go Go.ChangeShapes Go.WideShapes Go.ChangeAt Go.RowKit

theorem own : ownKnob Tryd.prog.godebug = none := by kernel_rfl
theorem tPow : (Tryd.prog.globals[1]?).map (·.type) = some 72 := by kernel_rfl
theorem cPow : Tryd.prog.cellsOf 72 = 20 := by kernel_rfl
theorem cU64 : Tryd.prog.cellsOf 65 = 1 := by kernel_rfl
theorem pow_of {L : List (String × DataW Unit)} {W : World} (h : laidMetH Tryd.prog L W) (hL : L.filter (fun x => x.1 == "internal/strconv.uint64pow10") = [("internal/strconv.uint64pow10", Rows.laid_internal_strconv_uint64pow10)]) : Pow10 W := by
  have h1 := laidMetH.filter (fun x => x.1 == "internal/strconv.uint64pow10") h
  rw [hL] at h1
  have h2 : laidMet Tryd.prog [("internal/strconv.uint64pow10", Lib.tabData .u64 Lib.pow10Tab)] W := (laidMetH_iff.1 h1).1
  exact Lib.tabIs_of_head gPow tPow Tryd.underlying72 Tryd.underlying65 cU64 cPow h2

theorem typesSize : Tryd.prog.types.size = 96 := by kernel_rfl
end Go.Proofs.YtgnknliaeoblhabDoor
