/- The summer: one step down, and the calls that are short. -/
import Derived.Test.YtlcnicgjlddldaaDoorKit
import Derived.Test.YtlcnicgjlddldaaDoorCrc
import Derived.Test.YtlcnicgjlddldaaDoorProg
import Derived.IntWalk
import Derived.KernelRfl
import Derived.Deep.LoopGhost
import Derived.Laws.BitsAll
import Derived.Lib.Builder
import Derived.BigRegion
import Derived.RegionTactic
import Derived.ChangeAlike
namespace Go.Proofs.YtlcnicgjlddldaaDoor
open Go Go.RowKit

/-- A summer in memory: block g holds its sum, and behind it the table. -/
structure SumAt (w : World) (g : Nat) (s : Nat) (tab : Nat → Nat) : Prop where
  blk : ∃ arr : Array Value, w.heap[g]? = some (.cells arr 128 (0, 0)) ∧ arr.size = 257
  sum : w.cell? ⟨g, 0, none⟩ = some (.int .u32 s)
  small : s < 4294967296
  tab : ∀ i, i < 256 → w.cell? ⟨g, 1 + i, none⟩ = some (.int .u32 (tab i)) ∧ tab i < 4294967296

theorem SumAt.frozen {w : World} {g s : Nat} {tab : Nat → Nat} (h : SumAt w g s tab) (i : Nat) : w.frozen? ⟨g, i, none⟩ = false := by
  obtain ⟨arr, hb, _⟩ := h.blk
  simp [World.frozen?, hb]
theorem and_one (r : Nat) (hr : r < 4294967296) : bits .and .u32 (r : Int) 1 = ((r % 2 : Nat) : Int) := by
  have := u32_and_nat r 1 hr (by decide)
  rw [Nat.and_one_is_mod] at this
  exact this
theorem half_int (r : Nat) : (r : Int) / 2 = ((r / 2 : Nat) : Int) := by omega
theorem dn_odd {r : Nat} (hr : r < 4294967296) (h : bits .and .u32 (r : Int) 1 = 1) : bits .xor .u32 ((r : Int) / 2) 2197175160 = ((dn r : Nat) : Int) := by
  rw [and_one r hr] at h
  rw [half_int, show (2197175160 : Int) = ((2197175160 : Nat) : Int) from rfl, u32_xor_nat _ _ (by omega) (by decide)]
  unfold dn
  rw [if_pos (by omega)]
theorem dn_even {r : Nat} (hr : r < 4294967296) (h : ¬ bits .and .u32 (r : Int) 1 = 1) : (r : Int) / 2 = ((dn r : Nat) : Int) := by
  rw [and_one r hr] at h
  unfold dn
  rw [if_neg (by omega), half_int]

set_option maxRecDepth 100000 in
theorem down_dn (r : Nat) (w : World) (hr : r < 4294967296) : Calls Tryd.prog 79 #[.int .u32 r] w fun e w' => e = .returned (.int .u32 (dn r)) ∧ w' = w := by
  go_enter Tryd.func79, Tryd.ntmps79
  go_wp2
  · rename_i h
    go_ret
    exact ⟨by rw [← dn_odd hr (by simpa using h)]; rfl, rfl⟩
  · rename_i h
    go_ret
    exact ⟨by rw [← dn_even hr (by simpa using h)]; rfl, rfl⟩
set_option maxRecDepth 100000 in
theorem Sum_nil (w : World) : Calls Tryd.prog 54 #[.pointer none] w fun e w' => e = .returned (.int .u32 0) ∧ w' = w := by
  go_enter Tryd.func54, Tryd.ntmps54
  go_wp2
  go_ret
  exact ⟨rfl, rfl⟩
set_option maxRecDepth 100000 in
theorem Sum_at (g s : Nat) (tab : Nat → Nat) (w : World) (h : SumAt w g s tab) : Calls Tryd.prog 54 #[.pointer (some ⟨g, 0, none⟩)] w fun e w' => e = .returned (.int .u32 s) ∧ w' = w := by
  have h1 := h.sum
  have H := Lib.hid h; clear h
  go_enter Tryd.func54, Tryd.ntmps54
  go_wp2
  go_ret
  exact ⟨rfl, rfl⟩
def zeros : Array Value := (List.replicate 257 (Value.int .u32 0)).toArray
set_option maxRecDepth 100000 in
theorem zero_run (w : World) : (zeroValue 128).run Tryd.prog w = .ok (.agg zeros) w := by kernel_rfl
theorem zeros_at (i : Nat) (h : i < 257) : zeros[i]? = some (.int .u32 0) := by
  unfold zeros
  rw [List.getElem?_toArray, List.getElem?_replicate, if_pos h]
attribute [local go_sem] zero_run
set_option maxHeartbeats 1000000 in
set_option maxRecDepth 100000 in
theorem New_at (w : World) : Calls Tryd.prog 52 #[] w fun e w' => e = .returned (.pointer (some ⟨w.heap.size, 0, none⟩)) ∧ SumAt w' w.heap.size 0 (fun _ => 0) ∧ Ext w w' := by
  go_enter Tryd.func52, Tryd.ntmps52
  go_wp2
  go_ret
  refine ⟨rfl, ⟨⟨_, Go.heap_alloc_new _ _, show zeros.size = 257 by unfold zeros; rw [List.size_toArray, List.length_replicate]⟩, ?_, by decide, fun i hi => ⟨?_, by decide⟩⟩, (Ext.refl w).alloc _⟩
  · rw [Lib.cell_of_heap (Go.heap_alloc_new _ _)]
    exact zeros_at 0 (by omega)
  · rw [Lib.cell_of_heap (Go.heap_alloc_new _ _)]
    exact zeros_at (1 + i) (by omega)
end Go.Proofs.YtlcnicgjlddldaaDoor
