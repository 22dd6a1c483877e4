/- Closed facts for errors.Is at a target api.Errno. -/
import Derived.Test.YtlcnicgjlddldaaDoorAsFacts
import Derived.LaidEql
namespace Go.Proofs.YtlcnicgjlddldaaDoor
open Go Go.RowKit Go.Extern
theorem eqlEE (c d : Int) (w : World) : (binOp .eql 31 (.iface 35 (.int .i64 c)) (.iface 35 (.int .i64 d))).run Tryd.prog w = .ok (.bool (decide (c = d))) w := by kernel_rfl
theorem eqlPE (v u : Value) (w : World) : (binOp .eql 31 (.iface 75 v) (.iface 35 u)).run Tryd.prog w = .ok (.bool false) w := run_eql_iface_types _ _ v u Tryd.underlying31 (by decide) w
theorem eqlWE (v u : Value) (w : World) : (binOp .eql 31 (.iface 82 v) (.iface 35 u)).run Tryd.prog w = .ok (.bool false) w := run_eql_iface_types _ _ v u Tryd.underlying31 (by decide) w
theorem eqlRE (v u : Value) (w : World) : (binOp .eql 31 (.iface 93 v) (.iface 35 u)).run Tryd.prog w = .ok (.bool false) w := run_eql_iface_types _ _ v u Tryd.underlying31 (by decide) w
theorem methodComparable (h : Value) (w : World) : (Go.method 291 136 (.agg #[h]) "Comparable").run Tryd.prog w = .ok (126, .agg #[h]) w := by kernel_rfl
theorem callComparableE (w : World) : (callFunc 126 #[.agg #[.pointer (some ⟨5, 35, none⟩)]]).run Tryd.prog w = .ok (.value (.bool true)) w := by kernel_rfl
end Go.Proofs.YtlcnicgjlddldaaDoor
