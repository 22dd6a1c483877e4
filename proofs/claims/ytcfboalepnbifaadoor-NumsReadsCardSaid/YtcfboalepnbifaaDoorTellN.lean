/- What fault.Code and fault.Place tell of what a row tells. -/
import Derived.Test.YtcfboalepnbifaaDoorFaultG
import Derived.Test.YtcfboalepnbifaaDoorFaultM
namespace Go.Proofs.YtcfboalepnbifaaDoor
open Go Go.RowKit

theorem Code_code (c : Int) (w : World) (hg : ErrType w) (h : c ≠ 0) (h0 : -9223372036854775808 ≤ c) (h1 : c ≤ 9223372036854775807) : Calls Tryd.prog 21 #[.iface 28 (.int .i64 c)] w fun e w' => e = .returned (.int .i64 c) ∧ Ext w w' :=
  Code_rep (.code c) _ w hg ⟨rfl, h, h0, h1⟩
theorem Code_placed (c p : Int) (w : World) (hg : ErrType w) (h : c ≠ 0) (h0 : -9223372036854775808 ≤ c) (h1 : c ≤ 9223372036854775807) (p0 : -9223372036854775808 ≤ p) (p1 : p ≤ 9223372036854775807) :
    Calls Tryd.prog 21 #[.iface 65 (.agg #[.iface 28 (.int .i64 c), .int .i64 p, .bool false])] w fun e w' => e = .returned (.int .i64 c) ∧ Ext w w' :=
  Code_rep (.place p (.code c)) _ w hg ⟨_, _, rfl, ⟨p0, p1⟩, rfl, h, h0, h1⟩
theorem Is_placed (c p d : Int) (w : World) (h : c ≠ 0) (h0 : -9223372036854775808 ≤ c) (h1 : c ≤ 9223372036854775807) (p0 : -9223372036854775808 ≤ p) (p1 : p ≤ 9223372036854775807) :
    Calls Tryd.prog 25 #[.iface 65 (.agg #[.iface 28 (.int .i64 c), .int .i64 p, .bool false]), .int .i64 d] w fun e w' => e = .returned (.bool (c == d)) ∧ Ext w w' :=
  Is_rep (.place p (.code c)) _ d w ⟨_, _, rfl, ⟨p0, p1⟩, rfl, h, h0, h1⟩
theorem Place_nil (w : World) : Calls Tryd.prog 17 #[.nilIface] w fun e w' => e = .returned (.tuple #[.int .i64 0, .bool false]) ∧ Ext w w' :=
  callsIn_wide.1 (Place_in 5 (Nat.le_refl _) .nilIface [] w rfl)
theorem Place_code (c : Int) (w : World) : Calls Tryd.prog 17 #[.iface 28 (.int .i64 c)] w fun e w' => e = .returned (.tuple #[.int .i64 0, .bool false]) ∧ Ext w w' :=
  callsIn_wide.1 (Place_in 5 (Nat.le_refl _) _ [.code c] w ⟨rfl, rfl⟩)
theorem Place_placed (c p : Int) (w : World) (p0 : -9223372036854775808 ≤ p) (p1 : p ≤ 9223372036854775807) :
    Calls Tryd.prog 17 #[.iface 65 (.agg #[.iface 28 (.int .i64 c), .int .i64 p, .bool false])] w fun e w' => e = .returned (.tuple #[.int .i64 p, .bool true]) ∧ Ext w w' := by
  refine (callsIn_wide.1 (Place_in 5 (Nat.le_refl _) _ [.place p 28 (.int .i64 c), .code c] w ⟨rfl, rfl, rfl⟩)).mono ?_
  rintro e w' ⟨rfl, hx⟩
  have e1 : placeSum [.place p 28 (.int .i64 c), .code c] = p := by
    show wrap64 (0 + p) = p
    unfold wrap64; omega
  have e2 : placeIs [.place p 28 (.int .i64 c), .code c] = true := rfl
  rw [e1, e2]
  exact ⟨rfl, hx⟩
end Go.Proofs.YtcfboalepnbifaaDoor
