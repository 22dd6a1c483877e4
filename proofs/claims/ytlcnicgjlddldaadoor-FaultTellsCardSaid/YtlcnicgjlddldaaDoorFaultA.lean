/- The plain contracts of package fault: New, strange, At, In. -/
import Derived.Test.YtlcnicgjlddldaaDoorFacts
import Derived.Test.YtlcnicgjlddldaaDoorKit
namespace Go.Proofs.YtlcnicgjlddldaaDoor
open Go.RowKit
attribute [local go_sem] ta_nil_E ta_nil_P ta_nil_W ta_nil_R ta_E_E ta_E_P ta_E_W ta_E_R ta_P_E ta_P_P ta_P_W ta_P_R ta_W_E ta_W_P ta_W_W ta_W_R ta_R_E ta_R_P ta_R_W ta_R_R

theorem new_ok (w : World) : Calls Tryd.prog 26 #[.int .i64 0] w fun e w' => e = .returned .nilIface ∧ w' = w := by
  go_enter Tryd.func26, Tryd.ntmps26
  go_wp2
  go_ret
  exact ⟨rfl, rfl⟩
theorem new_code (c : Int) (w : World) (hc : c ≠ 0) : Calls Tryd.prog 26 #[.int .i64 c] w fun e w' => e = .returned (.iface 35 (.int .i64 c)) ∧ w' = w := by
  go_enter Tryd.func26, Tryd.ntmps26
  go_wp2
  go_ret
  exact ⟨rfl, rfl⟩
theorem at_nil (p : Value) (w : World) : Calls Tryd.prog 24 #[.nilIface, p] w fun e w' => e = .returned .nilIface ∧ w' = w := by
  go_enter Tryd.func24, Tryd.ntmps24
  go_wp2
  go_ret
  exact ⟨rfl, rfl⟩
theorem in_nil (p : Value) (w : World) : Calls Tryd.prog 23 #[.nilIface, p] w fun e w' => e = .returned .nilIface ∧ w' = w := by
  go_enter Tryd.func23, Tryd.ntmps23
  go_wp2
  go_ret
  exact ⟨rfl, rfl⟩
set_option maxRecDepth 100000 in
theorem strange_nil (w : World) : Calls Tryd.prog 49 #[.nilIface] w fun e w' => e = .returned (.bool false) ∧ w' = w := by
  go_enter Tryd.func49, Tryd.ntmps49
  go_wp2
  go_ret
  exact ⟨rfl, rfl⟩
set_option maxRecDepth 100000 in
theorem strange_code (c : Int) (w : World) : Calls Tryd.prog 49 #[.iface 35 (.int .i64 c)] w fun e w' => e = .returned (.bool false) ∧ w' = w := by
  go_enter Tryd.func49, Tryd.ntmps49
  go_wp2
  go_ret
  exact ⟨rfl, rfl⟩
set_option maxRecDepth 100000 in
theorem strange_placed (t : TypeId) (v : Value) (p : Int) (b : Bool) (w : World) : Calls Tryd.prog 49 #[.iface 75 (.agg #[.iface t v, .int .i64 p, .bool b])] w fun e w' => e = .returned (.bool b) ∧ Below w.heap.size w w' := by
  go_enter Tryd.func49, Tryd.ntmps49
  go_wp2
  go_ret
  exact ⟨rfl, (Below.refl _ _).alloc (Nat.le_refl _) _⟩
set_option maxRecDepth 100000 in
theorem strange_worded (t : TypeId) (v : Value) (s : ByteArray) (b : Bool) (w : World) : Calls Tryd.prog 49 #[.iface 82 (.agg #[.iface t v, .string s, .bool b])] w fun e w' => e = .returned (.bool b) ∧ Below w.heap.size w w' := by
  go_enter Tryd.func49, Tryd.ntmps49
  go_wp2
  go_ret
  exact ⟨rfl, (Below.refl _ _).alloc (Nat.le_refl _) _⟩
set_option maxRecDepth 100000 in
theorem strange_row (r : Nat) (b : Bool) (w : World) (h1 : w.cell? ⟨r, 1, none⟩ = some (.bool b)) : Calls Tryd.prog 49 #[.iface 93 (.pointer (some ⟨r, 0, none⟩))] w fun e w' => e = .returned (.bool b) ∧ w' = w := by
  go_enter Tryd.func49, Tryd.ntmps49
  go_wp2
  go_ret
  exact ⟨rfl, rfl⟩
theorem at_code (c p : Int) (w : World) : Calls Tryd.prog 24 #[.iface 35 (.int .i64 c), .int .i64 p] w fun e w' => e = .returned (.iface 75 (.agg #[.iface 35 (.int .i64 c), .int .i64 p, .bool false])) ∧ w' = w := by
  go_enter Tryd.func24, Tryd.ntmps24
  go_wp2_with (first | (go_at_call 49; refine (strange_code _ _).mono ?_; rintro e w' ⟨rfl, rfl⟩))
  go_ret
  exact ⟨rfl, rfl⟩
theorem at_placed (t : TypeId) (v : Value) (q p : Int) (b : Bool) (w : World) : Calls Tryd.prog 24 #[.iface 75 (.agg #[.iface t v, .int .i64 q, .bool b]), .int .i64 p] w fun e w' => e = .returned (.iface 75 (.agg #[.iface 75 (.agg #[.iface t v, .int .i64 q, .bool b]), .int .i64 p, .bool b])) ∧ Below w.heap.size w w' := by
  go_enter Tryd.func24, Tryd.ntmps24
  go_wp2_with (first | (go_at_call 49; refine (strange_placed _ _ _ _ _).mono ?_; rintro e w' ⟨rfl, hb⟩))
  go_ret
  exact ⟨rfl, hb⟩
theorem in_code (c : Int) (s : ByteArray) (w : World) : Calls Tryd.prog 23 #[.iface 35 (.int .i64 c), .string s] w fun e w' => e = .returned (.iface 82 (.agg #[.iface 35 (.int .i64 c), .string s, .bool false])) ∧ w' = w := by
  go_enter Tryd.func23, Tryd.ntmps23
  go_wp2_with (first | (go_at_call 49; refine (strange_code _ _).mono ?_; rintro e w' ⟨rfl, rfl⟩))
  go_ret
  exact ⟨rfl, rfl⟩
theorem in_placed (t : TypeId) (v : Value) (q : Int) (s : ByteArray) (b : Bool) (w : World) : Calls Tryd.prog 23 #[.iface 75 (.agg #[.iface t v, .int .i64 q, .bool b]), .string s] w fun e w' => e = .returned (.iface 82 (.agg #[.iface 75 (.agg #[.iface t v, .int .i64 q, .bool b]), .string s, .bool b])) ∧ Below w.heap.size w w' := by
  go_enter Tryd.func23, Tryd.ntmps23
  go_wp2_with (first | (go_at_call 49; refine (strange_placed _ _ _ _ _).mono ?_; rintro e w' ⟨rfl, hb⟩))
  go_ret
  exact ⟨rfl, hb⟩
end Go.Proofs.YtlcnicgjlddldaaDoor
