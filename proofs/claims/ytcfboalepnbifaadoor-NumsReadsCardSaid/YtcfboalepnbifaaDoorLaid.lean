/- What the laid variables hold, and that it stays so. -/
import Derived.Test.YtcfboalepnbifaaDoorKit
import Derived.Test.YtcfboalepnbifaaDoorProg
import Derived.Lib.LaidTab
import Derived.Lib.ItoaNum
import Derived.KernelRfl
namespace Go.Proofs.YtcfboalepnbifaaDoor
open Go Go.RowKit

/-- errors.errorType: the handle of the type error. -/
def ErrType (w : World) : Prop := w.cell? ⟨0, 0, none⟩ = some (.iface 105 (.agg #[.pointer (some ⟨1, 40, none⟩)]))
theorem ErrType.ext {w w' : World} (h : ErrType w) (hx : Ext w w') : ErrType w' := hx.cell h
/-- The table of the powers of ten. -/
def Pow10 (w : World) : Prop := Lib.TabIs Tryd.prog w "internal/strconv.uint64pow10" .u64 Lib.pow10Tab
end Go.Proofs.YtcfboalepnbifaaDoor
