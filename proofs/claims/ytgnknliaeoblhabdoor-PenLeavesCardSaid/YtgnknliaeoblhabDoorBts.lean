/- A text's bytes. -/
import Derived.WalkKit
namespace Go.Proofs.YtgnknliaeoblhabDoor
open Go Go.RowKit

def bts (s : ByteArray) : List UInt8 := s.data.toList
theorem bts_len (s : ByteArray) : (bts s).length = s.size := by unfold bts; rw [Array.length_toList]; rfl
theorem bts_at (s : ByteArray) (j : Nat) (h : j < s.size) : (bts s)[j]? = some s[j] := by
  unfold bts
  rw [Array.getElem?_toList]
  exact Array.getElem?_eq_getElem (xs := s.data) h
theorem bts_append (x y : ByteArray) : bts (x ++ y) = bts x ++ bts y := by
  unfold bts
  rw [ByteArray.data_append, Array.toList_append]
theorem bts_mk (l : List UInt8) : bts ⟨l.toArray⟩ = l := by simp [bts]
theorem size_mk (l : List UInt8) : (⟨l.toArray⟩ : ByteArray).size = l.length := by rw [← bts_len, bts_mk]
theorem ba_ext {a b : ByteArray} (h : bts a = bts b) : a = b := by
  apply ByteArray.ext
  exact Array.toList_inj.1 h
theorem mk_bts (s : ByteArray) : (⟨(bts s).toArray⟩ : ByteArray) = s := ba_ext (bts_mk _)
theorem mk_append (a b : List UInt8) : (⟨a.toArray⟩ : ByteArray) ++ ⟨b.toArray⟩ = ⟨(a ++ b).toArray⟩ := by
  apply ba_ext
  rw [bts_append, bts_mk, bts_mk, bts_mk]
theorem bts_extract (s : ByteArray) (i j : Nat) : bts (s.extract i j) = ((bts s).take j).drop i := by
  unfold bts
  rw [ByteArray.data_extract, Array.toList_extract]
  simp [List.drop_take]
def shortOf (s : ByteArray) (n : Nat) : ByteArray := if n < s.size then s.extract 0 n else s
theorem shortOf_le (s : ByteArray) (n : Nat) : (shortOf s n).size ≤ n := by
  unfold shortOf
  split
  · rw [ByteArray.size_extract]; omega
  · omega
end Go.Proofs.YtgnknliaeoblhabDoor
