/- The plain contracts of package fault: New, strange, At, In. -/
import Derived.Test.YtcfboalepnbifaaDoorFacts
import Derived.Test.YtcfboalepnbifaaDoorKit
namespace Go.Proofs.YtcfboalepnbifaaDoor
open Go.RowKit
attribute [local go_sem] ta_nil_E ta_nil_P ta_nil_W ta_nil_R ta_E_E ta_E_P ta_E_W ta_E_R ta_P_E ta_P_P ta_P_W ta_P_R ta_W_E ta_W_P ta_W_W ta_W_R ta_R_E ta_R_P ta_R_W ta_R_R

theorem new_ok (w : World) : Calls Tryd.prog 30 #[.int .i64 0] w fun e w' => e = .returned .nilIface ∧ w' = w := by
  go_enter Tryd.func30, Tryd.ntmps30
  go_wp2
  go_ret
  exact ⟨rfl, rfl⟩
theorem new_code (c : Int) (w : World) (hc : c ≠ 0) : Calls Tryd.prog 30 #[.int .i64 c] w fun e w' => e = .returned (.iface 28 (.int .i64 c)) ∧ w' = w := by
  go_enter Tryd.func30, Tryd.ntmps30
  go_wp2
  go_ret
  exact ⟨rfl, rfl⟩
theorem at_nil (p : Value) (w : World) : Calls Tryd.prog 31 #[.nilIface, p] w fun e w' => e = .returned .nilIface ∧ w' = w := by
  go_enter Tryd.func31, Tryd.ntmps31
  go_wp2
  go_ret
  exact ⟨rfl, rfl⟩
set_option maxRecDepth 100000 in
theorem strange_nil (w : World) : Calls Tryd.prog 42 #[.nilIface] w fun e w' => e = .returned (.bool false) ∧ w' = w := by
  go_enter Tryd.func42, Tryd.ntmps42
  go_wp2
  go_ret
  exact ⟨rfl, rfl⟩
set_option maxRecDepth 100000 in
theorem strange_code (c : Int) (w : World) : Calls Tryd.prog 42 #[.iface 28 (.int .i64 c)] w fun e w' => e = .returned (.bool false) ∧ w' = w := by
  go_enter Tryd.func42, Tryd.ntmps42
  go_wp2
  go_ret
  exact ⟨rfl, rfl⟩
set_option maxRecDepth 100000 in
theorem strange_placed (t : TypeId) (v : Value) (p : Int) (b : Bool) (w : World) : Calls Tryd.prog 42 #[.iface 65 (.agg #[.iface t v, .int .i64 p, .bool b])] w fun e w' => e = .returned (.bool b) ∧ Below w.heap.size w w' := by
  go_enter Tryd.func42, Tryd.ntmps42
  go_wp2
  go_ret
  exact ⟨rfl, (Below.refl _ _).alloc (Nat.le_refl _) _⟩
set_option maxRecDepth 100000 in
theorem strange_worded (t : TypeId) (v : Value) (s : ByteArray) (b : Bool) (w : World) : Calls Tryd.prog 42 #[.iface 78 (.agg #[.iface t v, .string s, .bool b])] w fun e w' => e = .returned (.bool b) ∧ Below w.heap.size w w' := by
  go_enter Tryd.func42, Tryd.ntmps42
  go_wp2
  go_ret
  exact ⟨rfl, (Below.refl _ _).alloc (Nat.le_refl _) _⟩
set_option maxRecDepth 100000 in
theorem strange_row (r : Nat) (b : Bool) (w : World) (h1 : w.cell? ⟨r, 1, none⟩ = some (.bool b)) : Calls Tryd.prog 42 #[.iface 79 (.pointer (some ⟨r, 0, none⟩))] w fun e w' => e = .returned (.bool b) ∧ w' = w := by
  go_enter Tryd.func42, Tryd.ntmps42
  go_wp2
  go_ret
  exact ⟨rfl, rfl⟩
theorem at_code (c p : Int) (w : World) : Calls Tryd.prog 31 #[.iface 28 (.int .i64 c), .int .i64 p] w fun e w' => e = .returned (.iface 65 (.agg #[.iface 28 (.int .i64 c), .int .i64 p, .bool false])) ∧ w' = w := by
  go_enter Tryd.func31, Tryd.ntmps31
  go_wp2_with (first | (go_at_call 42; refine (strange_code _ _).mono ?_; rintro e w' ⟨rfl, rfl⟩))
  go_ret
  exact ⟨rfl, rfl⟩
theorem at_placed (t : TypeId) (v : Value) (q p : Int) (b : Bool) (w : World) : Calls Tryd.prog 31 #[.iface 65 (.agg #[.iface t v, .int .i64 q, .bool b]), .int .i64 p] w fun e w' => e = .returned (.iface 65 (.agg #[.iface 65 (.agg #[.iface t v, .int .i64 q, .bool b]), .int .i64 p, .bool b])) ∧ Below w.heap.size w w' := by
  go_enter Tryd.func31, Tryd.ntmps31
  go_wp2_with (first | (go_at_call 42; refine (strange_placed _ _ _ _ _).mono ?_; rintro e w' ⟨rfl, hb⟩))
  go_ret
  exact ⟨rfl, hb⟩
end Go.Proofs.YtcfboalepnbifaaDoor
