/- errors.As at the target, and fault.Code. -/
import Derived.Test.YtcfboalepnbifaaDoorFaultC
import Derived.Test.YtcfboalepnbifaaDoorLaid
import Derived.Defers
import Derived.Recover
namespace Go.Proofs.YtcfboalepnbifaaDoor
open Go Go.RowKit Go.Extern
attribute [local go_sem] callValueOf callType callIsNil callKind callTElem callImplements
attribute [local go_sem] valueOfT typeT methodKind methodElem methodImplements kindT kindE elemTypeT implementsE

theorem As_nil (t : Value) (w : World) : Calls Tryd.prog 34 #[.nilIface, t] w fun e w' => e = .returned (.bool false) ∧ w' = w := by
  go_enter Tryd.func34, Tryd.ntmps34
  go_wp2
  go_ret
  exact ⟨rfl, rfl⟩

set_option maxHeartbeats 4000000 in
set_option maxRecDepth 100000 in
theorem As_rep (t : Tr) (v : Value) (ta : Addr) (old : Value) (w : World) (hg : ErrType w) (hr : Rep w t v) (ht : w.cell? ta = some old) (hf : w.frozen? ta = false) :
    Calls Tryd.prog 34 #[v, .iface 71 (.pointer (some ta))] w fun e w' => e = .returned (.bool true) ∧ ∃ w1, Ext w w1 ∧ w' = w1.setCell ta (.int .i64 t.codeOf) := by
  obtain ⟨u, x, rfl⟩ := hr.form
  have n8 := isNilT ⟨w.heap.size, 0, none⟩ ta ((w.alloc (.cells #[.pointer (some ta)] 71)).alloc (.cells #[.pointer (some ⟨1, 71, none⟩), .pointer (some ⟨w.heap.size, 0, none⟩), .int .u64 150] 85)) (by simp)
  have hx : Ext w ((w.alloc (.cells #[.pointer (some ta)] 71)).alloc (.cells #[.pointer (some ⟨1, 71, none⟩), .pointer (some ⟨w.heap.size, 0, none⟩), .int .u64 150] 85)) := ((Ext.refl w).alloc _).alloc _
  have hg2 : ((w.alloc (.cells #[.pointer (some ta)] 71)).alloc (.cells #[.pointer (some ⟨1, 71, none⟩), .pointer (some ⟨w.heap.size, 0, none⟩), .int .u64 150] 85)).cell? ⟨0, 0, none⟩ = some (.iface 105 (.agg #[.pointer (some ⟨1, 40, none⟩)])) := hg.ext hx
  have HR := Lib.hid (And.intro (hr.ext hx) (And.intro (hx.cell ht) ((hx.frozen (lt_of_cell ht)).trans hf)))
  have HX := Lib.hid hx
  clear hr ht hf hx hg
  go_enter Tryd.func34, Tryd.ntmps34
  go_wp2_with (go_at_call 47; refine (as_rep _ t _ ⟨w.heap.size, 0, none⟩ ta old _ (Nat.le_refl _) HR.out.1 (by simp) HR.out.2.1 HR.out.2.2).mono ?_)
  rintro e w2 ⟨rfl, w1, hx1, rfl⟩
  go_wp2
  go_ret
  exact ⟨rfl, w1, HX.out.trans hx1, rfl⟩
end Go.Proofs.YtcfboalepnbifaaDoor
