/- A region that draws its order, in a class of worlds of one's own: each operation hands back one value in every world of the class, and leaves one of it. -/
import Derived.WalkKit
import Derived.Deep.QuietTactic
import Derived.BigQuiet
namespace Go.Proofs.YtgnknliaeoblhabDoor
open Go Go.RowKit

/-- A world that meets a condition. -/
structure In (Z : World → Prop) where
  val : World
  prop : Z val
theorem wp_region_class {P : Program} {id : Nat} {Q : Exit → Act → World → Prop} {a : Act} {w : World} {l : List Oper} (Z : World → Prop) (hm : P.follows .mixedOrders = true) (hB : Region.lexB .any l.toArray = true) (hC : Z w.drew)
    (h : wpQuiet P l.toArray (fun w' => ∃ n : In Z, w' = n.val) (fun a' => ∀ w', (∃ n : In Z, w' = n.val) → Q .normal a' w') l a) : (Code.region id l.toArray true).wp P Q a w :=
  wp_region_quiet (C := fun w' => ∃ n : In Z, w' = n.val) hm hB ⟨⟨_, hC⟩, rfl⟩ (by simpa using h)
theorem quiet_class {P : Program} {f : FuncId} {args : Array Value} {v : Value} {Z : World → Prop} (h : ∀ W, Z W → Calls P f args W fun e w' => e = .returned v ∧ Z w') (n : In Z) :
    Calls P f args n.val fun e w'' => e = .returned v ∧ ∃ m : In Z, w'' = m.val :=
  (h n.val n.prop).mono fun _ _ ⟨he, hz⟩ => ⟨he, ⟨_, hz⟩, rfl⟩
end Go.Proofs.YtgnknliaeoblhabDoor
