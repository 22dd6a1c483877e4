/- What the laid variables hold, and that it stays so. -/
import Derived.Test.YtlcnicgjlddldaaDoorKit
import Derived.Test.YtlcnicgjlddldaaDoorProg
import Derived.Lib.LaidTab
import Derived.Lib.ItoaNum
import Derived.KernelRfl
namespace Go.Proofs.YtlcnicgjlddldaaDoor
open Go Go.RowKit

/-- errors.errorType: the handle of the type error. -/
def ErrType (w : World) : Prop := w.cell? ⟨0, 0, none⟩ = some (.iface 136 (.agg #[.pointer (some ⟨5, 31, none⟩)]))
theorem ErrType.ext {w w' : World} (h : ErrType w) (hx : Ext w w') : ErrType w' := hx.cell h
/-- The table of the powers of ten. -/
def Pow10 (w : World) : Prop := Lib.TabIs Tryd.prog w "internal/strconv.uint64pow10" .u64 Lib.pow10Tab
theorem gPow : Tryd.prog.globalNamed "internal/strconv.uint64pow10" = some 2 := by kernel_rfl
theorem Pow10.ext {w w' : World} (h : Pow10 w) (hx : Ext w w') : Pow10 w' := by
  unfold Pow10 Lib.TabIs World.var? at h ⊢
  rw [gPow] at h ⊢
  simp only [Option.bind] at h ⊢
  have hl : 2 < w.heap.size := by
    rcases Nat.lt_or_ge 2 w.heap.size with h' | h'
    · exact h'
    · rw [Array.getElem?_eq_none h'] at h; cases h
  rw [Below.block hx _ hl]
  exact h
end Go.Proofs.YtlcnicgjlddldaaDoor
