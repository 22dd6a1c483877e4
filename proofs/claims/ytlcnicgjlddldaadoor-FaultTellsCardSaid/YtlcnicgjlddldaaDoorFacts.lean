/- Closed facts on type assertions of package fault's errors: by the dynamic type (nil, E: api.Errno, P: placed, W: worded, R: *row) and the asserted one. -/
import Derived.Test.YtlcnicgjlddldaaDoorProg
import Derived.WalkKit
import Derived.KernelRfl
namespace Go.Proofs.YtlcnicgjlddldaaDoor
open Go Go.RowKit
theorem ta_nil_E (w : World) : (Instr.typeAssert .nilIface 31 35 true).run Tryd.prog w = .ok (.tuple #[.int .i64 0, .bool false]) w := by kernel_rfl
theorem ta_nil_P (w : World) : (Instr.typeAssert .nilIface 31 75 true).run Tryd.prog w = .ok (.tuple #[.agg #[.nilIface, .int .i64 0, .bool false], .bool false]) w := by kernel_rfl
theorem ta_nil_W (w : World) : (Instr.typeAssert .nilIface 31 82 true).run Tryd.prog w = .ok (.tuple #[.agg #[.nilIface, .string ⟨#[]⟩, .bool false], .bool false]) w := by kernel_rfl
theorem ta_nil_R (w : World) : (Instr.typeAssert .nilIface 31 93 true).run Tryd.prog w = .ok (.tuple #[.pointer none, .bool false]) w := by kernel_rfl
theorem ta_E_E (v : Value) (w : World) : (Instr.typeAssert (.iface 35 v) 31 35 true).run Tryd.prog w = .ok (.tuple #[v, .bool true]) w := by kernel_rfl
theorem ta_E_P (v : Value) (w : World) : (Instr.typeAssert (.iface 35 v) 31 75 true).run Tryd.prog w = .ok (.tuple #[.agg #[.nilIface, .int .i64 0, .bool false], .bool false]) w := by kernel_rfl
theorem ta_E_W (v : Value) (w : World) : (Instr.typeAssert (.iface 35 v) 31 82 true).run Tryd.prog w = .ok (.tuple #[.agg #[.nilIface, .string ⟨#[]⟩, .bool false], .bool false]) w := by kernel_rfl
theorem ta_E_R (v : Value) (w : World) : (Instr.typeAssert (.iface 35 v) 31 93 true).run Tryd.prog w = .ok (.tuple #[.pointer none, .bool false]) w := by kernel_rfl
theorem ta_P_E (v : Value) (w : World) : (Instr.typeAssert (.iface 75 v) 31 35 true).run Tryd.prog w = .ok (.tuple #[.int .i64 0, .bool false]) w := by kernel_rfl
theorem ta_P_P (v : Value) (w : World) : (Instr.typeAssert (.iface 75 v) 31 75 true).run Tryd.prog w = .ok (.tuple #[v, .bool true]) w := by kernel_rfl
theorem ta_P_W (v : Value) (w : World) : (Instr.typeAssert (.iface 75 v) 31 82 true).run Tryd.prog w = .ok (.tuple #[.agg #[.nilIface, .string ⟨#[]⟩, .bool false], .bool false]) w := by kernel_rfl
theorem ta_P_R (v : Value) (w : World) : (Instr.typeAssert (.iface 75 v) 31 93 true).run Tryd.prog w = .ok (.tuple #[.pointer none, .bool false]) w := by kernel_rfl
theorem ta_W_E (v : Value) (w : World) : (Instr.typeAssert (.iface 82 v) 31 35 true).run Tryd.prog w = .ok (.tuple #[.int .i64 0, .bool false]) w := by kernel_rfl
theorem ta_W_P (v : Value) (w : World) : (Instr.typeAssert (.iface 82 v) 31 75 true).run Tryd.prog w = .ok (.tuple #[.agg #[.nilIface, .int .i64 0, .bool false], .bool false]) w := by kernel_rfl
theorem ta_W_W (v : Value) (w : World) : (Instr.typeAssert (.iface 82 v) 31 82 true).run Tryd.prog w = .ok (.tuple #[v, .bool true]) w := by kernel_rfl
theorem ta_W_R (v : Value) (w : World) : (Instr.typeAssert (.iface 82 v) 31 93 true).run Tryd.prog w = .ok (.tuple #[.pointer none, .bool false]) w := by kernel_rfl
theorem ta_R_E (v : Value) (w : World) : (Instr.typeAssert (.iface 93 v) 31 35 true).run Tryd.prog w = .ok (.tuple #[.int .i64 0, .bool false]) w := by kernel_rfl
theorem ta_R_P (v : Value) (w : World) : (Instr.typeAssert (.iface 93 v) 31 75 true).run Tryd.prog w = .ok (.tuple #[.agg #[.nilIface, .int .i64 0, .bool false], .bool false]) w := by kernel_rfl
theorem ta_R_W (v : Value) (w : World) : (Instr.typeAssert (.iface 93 v) 31 82 true).run Tryd.prog w = .ok (.tuple #[.agg #[.nilIface, .string ⟨#[]⟩, .bool false], .bool false]) w := by kernel_rfl
theorem ta_R_R (v : Value) (w : World) : (Instr.typeAssert (.iface 93 v) 31 93 true).run Tryd.prog w = .ok (.tuple #[v, .bool true]) w := by kernel_rfl
end Go.Proofs.YtlcnicgjlddldaaDoor
