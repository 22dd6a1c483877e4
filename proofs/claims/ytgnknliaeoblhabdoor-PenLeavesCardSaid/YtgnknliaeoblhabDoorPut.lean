/- Bytes are put, one number behind the other: nums.put, nums.Put. -/
import Derived.Test.YtgnknliaeoblhabDoorFold
import Derived.Test.YtgnknliaeoblhabDoorBts
import Derived.Maps.AppendAt
import Derived.Deep.AppendLies
import Derived.RegionTactic
import Derived.OwnWalk
import Derived.Laws.IdiomStrings
import Derived.Laws.BytesArg
namespace Go.Proofs.YtgnknliaeoblhabDoor
open Go Go.RowKit

def cellsB (l : List UInt8) : List Value := l.map fun b => .int .u8 b.toNat
theorem cellsB_append (a b : List UInt8) : cellsB (a ++ b) = cellsB a ++ cellsB b := List.map_append
/-- A row of bytes of the call's own. -/
def OwnB (w : World) (base : Nat) (v : Value) (l : List UInt8) : Prop := w.ownsRow base 5 1 v l.length (cellsB l)
theorem cellsB_one (n : Nat) (h : n < 256) : cellsB [UInt8.ofNat n] = [.int .u8 n] := by
  simp only [cellsB, List.map_cons, List.map_nil, toNat_ofNat8 h]
theorem infoByteB : (Tryd.prog.info? 5).map (fun i => (i.zero, i.size, i.bytes)) = some (some (.int .u8 0), 1, 1) := by kernel_rfl
theorem OwnB.more {w : World} {base : Nat} {v : Value} {l m : List UInt8} (h : w.ownsRow base 5 1 v (l.length + m.length) (cellsB l ++ cellsB m)) : OwnB w base v (l ++ m) := by
  unfold OwnB
  rw [List.length_append, cellsB_append]; exact h
theorem below_own {base : Nat} {w0 w w' : World} {e : TypeId} {n : Nat} {v : Value} {xs : List Value} (h : Below base w0 w) (hw : base ≤ w.heap.size) (ho : w.ownsRow base e 1 v n xs) (hg : w.grownBy w' v.ownBlock) : Below base w0 w' :=
  h.grown hg hw fun k hk => (ho.lt k hk).1
end Go.Proofs.YtgnknliaeoblhabDoor
