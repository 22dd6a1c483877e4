/- How many cells the character has that a row begins with: cell.whole. -/
import Derived.Test.YtgnknliaeoblhabDoorCelRow
import Derived.Test.YtgnknliaeoblhabDoorClass
namespace Go.Proofs.YtgnknliaeoblhabDoor
open Go Go.RowKit
attribute [local go_sem 10000] eq_cel

theorem CelAt.four {w : World} {g o : Nat} {r f b a : Int} (h : CelAt w g o ⟨r, f, b, a⟩) : w.cell? ⟨g, o, none⟩ = some (.int .i32 r) ∧ w.cell? ⟨g, o + 1, none⟩ = some (.int .u8 f) ∧ w.cell? ⟨g, o + 2, none⟩ = some (.int .u8 b) ∧ w.cell? ⟨g, o + 3, none⟩ = some (.int .u8 a) :=
  ⟨h 0 _ rfl, h 1 _ rfl, h 2 _ rfl, h 3 _ rfl⟩
theorem CelAt.four0 {w : World} {g : Nat} {r f b a : Int} (h : CelAt w g 0 ⟨r, f, b, a⟩) : w.cell? ⟨g, 0, none⟩ = some (.int .i32 r) ∧ w.cell? ⟨g, 1, none⟩ = some (.int .u8 f) ∧ w.cell? ⟨g, 2, none⟩ = some (.int .u8 b) ∧ w.cell? ⟨g, 3, none⟩ = some (.int .u8 a) :=
  ⟨h 0 _ rfl, h 1 _ rfl, h 2 _ rfl, h 3 _ rfl⟩
/-- In the class of the worlds that lie behind one. -/
theorem quiet_ext {P : Program} {w0 : World} {f : FuncId} {args : Array Value} {v : Value} (h : ∀ W, Ext w0 W → Calls P f args W fun e w' => e = .returned v ∧ Ext W w') (n : In (Ext w0)) :
    Calls P f args n.val fun e w'' => e = .returned v ∧ ∃ m : In (Ext w0), w'' = m.val :=
  quiet_class (Z := Ext w0) (fun W hW => (h W hW).mono fun _ _ ⟨he, hx⟩ => ⟨he, hW.trans hx⟩) n
theorem in_ext (w0 : World) : Nonempty (In (Ext w0)) := ⟨⟨_, Ext.refl w0⟩⟩
end Go.Proofs.YtgnknliaeoblhabDoor
