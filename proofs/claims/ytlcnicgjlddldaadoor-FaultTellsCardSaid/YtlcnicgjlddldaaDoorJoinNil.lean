/- The document's Join of nothing at all. -/
import Derived.Test.YtlcnicgjlddldaaDoorRefB
namespace Go.Proofs.YtlcnicgjlddldaaDoor
open Go Go.RowKit

set_option maxHeartbeats 4000000 in
set_option maxRecDepth 100000 in
theorem refJoin_none (S : Nat → Prop) (a : Option Addr) (c : Nat) (w : World) :
    Calls Tryd.prog 36 #[.slice a 0 c] w fun e w' => ∃ cs, e = .returned (.agg cs.toArray) ∧ RefO S w' (joined []) cs ∧ Ext w w' := by
  go_enter Tryd.func36, Tryd.ntmps36
  go_wp2
  have hcell : (w.alloc (.cells #[.int .i64 0, .int .i64 0, .int .i64 0, .string ⟨#[]⟩, .slice none 0 0] 37)).heap[w.heap.size]? = some (.cells refNone.toArray 37 (0, 0)) := Go.heap_alloc_new w _
  have hx : Ext w (w.alloc (.cells #[.int .i64 0, .int .i64 0, .int .i64 0, .string ⟨#[]⟩, .slice none 0 0] 37)) := (Ext.refl w).alloc _
  generalize w.alloc (.cells #[.int .i64 0, .int .i64 0, .int .i64 0, .string ⟨#[]⟩, .slice none 0 0] 37) = wr at hcell hx ⊢
  refine wp_loop_rounds 1 ?_
  rw [rounds_succ]
  have f0 : wr.frozen? ⟨w.heap.size, 0, none⟩ = false := Lib.frozen_of_heap hcell 0
  have f1 : wr.frozen? ⟨w.heap.size, 1, none⟩ = false := Lib.frozen_of_heap hcell 1
  have f2 : wr.frozen? ⟨w.heap.size, 2, none⟩ = false := Lib.frozen_of_heap hcell 2
  have f3 : wr.frozen? ⟨w.heap.size, 3, none⟩ = false := Lib.frozen_of_heap hcell 3
  have f4 : wr.frozen? ⟨w.heap.size, 4, none⟩ = false := Lib.frozen_of_heap hcell 4
  have z0 : wr.cell? ⟨w.heap.size, 0, none⟩ = some (.int .i64 0) := by rw [Lib.cell_of_heap hcell]; rfl
  have z1 : wr.cell? ⟨w.heap.size, 1, none⟩ = some (.int .i64 0) := by rw [Lib.cell_of_heap hcell]; rfl
  have z2 : wr.cell? ⟨w.heap.size, 2, none⟩ = some (.int .i64 0) := by rw [Lib.cell_of_heap hcell]; rfl
  have z3 : wr.cell? ⟨w.heap.size, 3, none⟩ = some (.string ⟨#[]⟩) := by rw [Lib.cell_of_heap hcell]; rfl
  have z4 : wr.cell? ⟨w.heap.size, 4, none⟩ = some (.slice none 0 0) := by rw [Lib.cell_of_heap hcell]; rfl
  go_wp2
  refine five_back hcell hx _ _ _ _ _ rfl fun w5 _ _ => ?_
  exact rfl
end Go.Proofs.YtlcnicgjlddldaaDoor
