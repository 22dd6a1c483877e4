/- What the laid variables hold, and that it stays so. -/
import Derived.Test.YtgnknliaeoblhabDoorKit
import Derived.Test.YtgnknliaeoblhabDoorProg
import Derived.Lib.LaidTab
import Derived.Lib.ItoaNum
import Derived.KernelRfl
namespace Go.Proofs.YtgnknliaeoblhabDoor
open Go Go.RowKit

/-- The table of the powers of ten. -/
def Pow10 (w : World) : Prop := Lib.TabIs Tryd.prog w "internal/strconv.uint64pow10" .u64 Lib.pow10Tab
theorem gPow : Tryd.prog.globalNamed "internal/strconv.uint64pow10" = some 1 := by kernel_rfl
theorem Pow10.ext {w w' : World} (h : Pow10 w) (hx : Ext w w') : Pow10 w' := by
  unfold Pow10 Lib.TabIs World.var? at h ⊢
  rw [gPow] at h ⊢
  simp only [Option.bind] at h ⊢
  have hl : 1 < w.heap.size := by
    rcases Nat.lt_or_ge 1 w.heap.size with h' | h'
    · exact h'
    · rw [Array.getElem?_eq_none h'] at h; cases h
  rw [Below.block hx _ hl]
  exact h
end Go.Proofs.YtgnknliaeoblhabDoor
