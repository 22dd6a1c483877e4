/- Closed facts for errors.Is at a target api.Errno. -/
import Derived.Test.YtcfboalepnbifaaDoorAsFacts
import Derived.LaidEql
namespace Go.Proofs.YtcfboalepnbifaaDoor
open Go Go.RowKit Go.Extern
theorem eqlEE (c d : Int) (w : World) : (binOp .eql 40 (.iface 28 (.int .i64 c)) (.iface 28 (.int .i64 d))).run Tryd.prog w = .ok (.bool (decide (c = d))) w := by kernel_rfl
theorem eqlPE (v u : Value) (w : World) : (binOp .eql 40 (.iface 65 v) (.iface 28 u)).run Tryd.prog w = .ok (.bool false) w := run_eql_iface_types _ _ v u Tryd.underlying40 (by decide) w
theorem eqlWE (v u : Value) (w : World) : (binOp .eql 40 (.iface 78 v) (.iface 28 u)).run Tryd.prog w = .ok (.bool false) w := run_eql_iface_types _ _ v u Tryd.underlying40 (by decide) w
theorem eqlRE (v u : Value) (w : World) : (binOp .eql 40 (.iface 79 v) (.iface 28 u)).run Tryd.prog w = .ok (.bool false) w := run_eql_iface_types _ _ v u Tryd.underlying40 (by decide) w
theorem methodComparable (h : Value) (w : World) : (Go.method 243 105 (.agg #[h]) "Comparable").run Tryd.prog w = .ok (83, .agg #[h]) w := by kernel_rfl
theorem callComparableE (w : World) : (callFunc 83 #[.agg #[.pointer (some ⟨1, 28, none⟩)]]).run Tryd.prog w = .ok (.value (.bool true)) w := by kernel_rfl
end Go.Proofs.YtcfboalepnbifaaDoor
