/- From the rows' condition on the listed variables to the walks' facts; a world that meets it. -/
import Derived.Test.YtlcnicgjlddldaaDoorCards
import Derived.Test.YtlcnicgjlddldaaDoorTie
import Derived.Test.YtlcnicgjlddldaaDoorLaid
import Derived.ProofKit
import Derived.OpenShut
import Derived.LaidMore
import Derived.LaidHandle
import Derived.LaidSub
import Derived.Deep.DeepHandedRow
namespace Go.Proofs.YtlcnicgjlddldaaDoor
open Go Go.ChangeShapes Go.WideShapes Go.ChangeAt Go.RowKit

theorem own : ownKnob Tryd.prog.godebug = none := by kernel_rfl
theorem tPow : (Tryd.prog.globals[2]?).map (·.type) = some 156 := by kernel_rfl
theorem cPow : Tryd.prog.cellsOf 156 = 20 := by kernel_rfl
theorem cU64 : Tryd.prog.cellsOf 123 = 1 := by kernel_rfl
theorem pow_of {L : List (String × DataW Unit)} {W : World} (h : laidMetH Tryd.prog L W) (hL : L.filter (fun x => x.1 == "internal/strconv.uint64pow10") = [("internal/strconv.uint64pow10", Rows.laid_internal_strconv_uint64pow10)]) : Pow10 W := by
  have h1 := laidMetH.filter (fun x => x.1 == "internal/strconv.uint64pow10") h
  rw [hL] at h1
  have h2 : laidMet Tryd.prog [("internal/strconv.uint64pow10", Lib.tabData .u64 Lib.pow10Tab)] W := (laidMetH_iff.1 h1).1
  exact Lib.tabIs_of_head gPow tPow Tryd.underlying156 Tryd.underlying123 cU64 cPow h2

theorem gErr : Tryd.prog.globalNamed "errors.errorType" = some 0 := by kernel_rfl
theorem rtErr : (Tryd.prog.cutTypes.find? (·.1 == "internal/reflectlite.rtype")).map (·.2) = some 136 := by kernel_rfl
theorem oneRow : ((List.range 191).filter fun t => Tryd.prog.rowNamed t [101, 114, 114, 111, 114]) = [31] := by kernel_rfl
theorem typesSize : Tryd.prog.types.size = 191 := by kernel_rfl
theorem err_of {L : List (String × DataW Unit)} {W : World} (h : laidMetH Tryd.prog L W) (hL : L.filter (fun x => x.1 == "errors.errorType") = [("errors.errorType", Rows.laid_errors_errorType)]) : ErrType W := by
  have h1 := laidMetH.filter (fun x => x.1 == "errors.errorType") h
  rw [hL] at h1
  have h2 : handlesMet Tryd.prog [("errors.errorType", Rows.laid_errors_errorType)] W := (laidMetH_iff.1 h1).2
  obtain ⟨name, u, ty, e1, e2, e3, e4, e5⟩ := h2 _ (List.mem_singleton.2 rfl)
  have en : name = [101, 114, 114, 111, 114] := (Option.some.inj e1).symm
  subst en
  obtain rfl := Option.some.inj (rtErr.symm.trans e2)
  have hm : ty ∈ (List.range 191).filter fun t => Tryd.prog.rowNamed t [101, 114, 114, 111, 114] := List.mem_filter.2 ⟨List.mem_range.2 (by rw [← typesSize]; exact e3), e4⟩
  rw [oneRow] at hm
  obtain rfl := List.mem_singleton.1 hm
  have hh : typeHandle Tryd.prog 31 = .pointer (some ⟨5, 31, none⟩) := by kernel_rfl
  rw [hh] at e5
  unfold ErrType
  simpa using World.var?_cell gErr e5 0

/-- The door's own heap meets the conditions. -/
theorem door_met4 (os : Os) (args : Array Value) : laidMetH Tryd.prog Rows.faultNoneRow.laid ((World.doorLaid Tryd.prog 4000 os).forCall (fun _ _ => 0) ⟨#[], args, []⟩).memory :=
  laidMetH_of_parts3 (fuel := 8) (laidMet_of_run' 8 (by kernel_rfl) (by kernel_rfl)) (by kernel_rfl) (by kernel_rfl)
end Go.Proofs.YtlcnicgjlddldaaDoor
