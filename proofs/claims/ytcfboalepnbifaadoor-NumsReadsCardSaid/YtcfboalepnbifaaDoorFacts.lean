/- Closed facts on type assertions of package fault's errors: by the dynamic type (nil, E: api.Errno, P: placed, W: worded, R: *row) and the asserted one. -/
import Derived.Test.YtcfboalepnbifaaDoorProg
import Derived.WalkKit
import Derived.KernelRfl
namespace Go.Proofs.YtcfboalepnbifaaDoor
open Go Go.RowKit
theorem ta_nil_E (w : World) : (Instr.typeAssert .nilIface 40 28 true).run Tryd.prog w = .ok (.tuple #[.int .i64 0, .bool false]) w := by kernel_rfl
theorem ta_nil_P (w : World) : (Instr.typeAssert .nilIface 40 65 true).run Tryd.prog w = .ok (.tuple #[.agg #[.nilIface, .int .i64 0, .bool false], .bool false]) w := by kernel_rfl
theorem ta_nil_W (w : World) : (Instr.typeAssert .nilIface 40 78 true).run Tryd.prog w = .ok (.tuple #[.agg #[.nilIface, .string ⟨#[]⟩, .bool false], .bool false]) w := by kernel_rfl
theorem ta_nil_R (w : World) : (Instr.typeAssert .nilIface 40 79 true).run Tryd.prog w = .ok (.tuple #[.pointer none, .bool false]) w := by kernel_rfl
theorem ta_E_E (v : Value) (w : World) : (Instr.typeAssert (.iface 28 v) 40 28 true).run Tryd.prog w = .ok (.tuple #[v, .bool true]) w := by kernel_rfl
theorem ta_E_P (v : Value) (w : World) : (Instr.typeAssert (.iface 28 v) 40 65 true).run Tryd.prog w = .ok (.tuple #[.agg #[.nilIface, .int .i64 0, .bool false], .bool false]) w := by kernel_rfl
theorem ta_E_W (v : Value) (w : World) : (Instr.typeAssert (.iface 28 v) 40 78 true).run Tryd.prog w = .ok (.tuple #[.agg #[.nilIface, .string ⟨#[]⟩, .bool false], .bool false]) w := by kernel_rfl
theorem ta_E_R (v : Value) (w : World) : (Instr.typeAssert (.iface 28 v) 40 79 true).run Tryd.prog w = .ok (.tuple #[.pointer none, .bool false]) w := by kernel_rfl
theorem ta_P_E (v : Value) (w : World) : (Instr.typeAssert (.iface 65 v) 40 28 true).run Tryd.prog w = .ok (.tuple #[.int .i64 0, .bool false]) w := by kernel_rfl
theorem ta_P_P (v : Value) (w : World) : (Instr.typeAssert (.iface 65 v) 40 65 true).run Tryd.prog w = .ok (.tuple #[v, .bool true]) w := by kernel_rfl
theorem ta_P_W (v : Value) (w : World) : (Instr.typeAssert (.iface 65 v) 40 78 true).run Tryd.prog w = .ok (.tuple #[.agg #[.nilIface, .string ⟨#[]⟩, .bool false], .bool false]) w := by kernel_rfl
theorem ta_P_R (v : Value) (w : World) : (Instr.typeAssert (.iface 65 v) 40 79 true).run Tryd.prog w = .ok (.tuple #[.pointer none, .bool false]) w := by kernel_rfl
theorem ta_W_E (v : Value) (w : World) : (Instr.typeAssert (.iface 78 v) 40 28 true).run Tryd.prog w = .ok (.tuple #[.int .i64 0, .bool false]) w := by kernel_rfl
theorem ta_W_P (v : Value) (w : World) : (Instr.typeAssert (.iface 78 v) 40 65 true).run Tryd.prog w = .ok (.tuple #[.agg #[.nilIface, .int .i64 0, .bool false], .bool false]) w := by kernel_rfl
theorem ta_W_W (v : Value) (w : World) : (Instr.typeAssert (.iface 78 v) 40 78 true).run Tryd.prog w = .ok (.tuple #[v, .bool true]) w := by kernel_rfl
theorem ta_W_R (v : Value) (w : World) : (Instr.typeAssert (.iface 78 v) 40 79 true).run Tryd.prog w = .ok (.tuple #[.pointer none, .bool false]) w := by kernel_rfl
theorem ta_R_E (v : Value) (w : World) : (Instr.typeAssert (.iface 79 v) 40 28 true).run Tryd.prog w = .ok (.tuple #[.int .i64 0, .bool false]) w := by kernel_rfl
theorem ta_R_P (v : Value) (w : World) : (Instr.typeAssert (.iface 79 v) 40 65 true).run Tryd.prog w = .ok (.tuple #[.agg #[.nilIface, .int .i64 0, .bool false], .bool false]) w := by kernel_rfl
theorem ta_R_W (v : Value) (w : World) : (Instr.typeAssert (.iface 79 v) 40 78 true).run Tryd.prog w = .ok (.tuple #[.agg #[.nilIface, .string ⟨#[]⟩, .bool false], .bool false]) w := by kernel_rfl
theorem ta_R_R (v : Value) (w : World) : (Instr.typeAssert (.iface 79 v) 40 79 true).run Tryd.prog w = .ok (.tuple #[v, .bool true]) w := by kernel_rfl
end Go.Proofs.YtcfboalepnbifaaDoor
