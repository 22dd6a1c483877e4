/- What a fault, or nothing, tells. -/
import Derived.Test.YtlcnicgjlddldaaDoorSpine
import Derived.Test.YtlcnicgjlddldaaDoorTexts
namespace Go.Proofs.YtlcnicgjlddldaaDoor
open Go Go.RowKit

def codeU : Option Tr → Int
  | none => 0
  | some t => t.codeOf
def hasU (c : Int) : Option Tr → Bool
  | none => decide (c = 0)
  | some t => t.has c
def sumU : Option Tr → Int
  | none => 0
  | some t => t.sum
def placedU : Option Tr → Bool
  | none => false
  | some t => t.placed
def pathU : Option Tr → List UInt8
  | none => []
  | some t => t.path
theorem Code_O (u : Option Tr) (v : Value) (w : World) (hg : ErrType w) (h : RepO w u v) : Calls Tryd.prog 15 #[v] w fun e w' => e = .returned (.int .i64 (codeU u)) ∧ Ext w w' := by
  cases u with
  | none => obtain rfl : v = .nilIface := h; exact Code_nil w
  | some t => exact Code_rep t v w hg h
theorem Is_O (u : Option Tr) (v : Value) (c : Int) (w : World) (h : RepO w u v) : Calls Tryd.prog 21 #[v, .int .i64 c] w fun e w' => e = .returned (.bool (hasU c u)) ∧ Ext w w' := by
  cases u with
  | none => obtain rfl : v = .nilIface := h; exact Is_nil c w
  | some t => exact Is_rep t v c w h
theorem Place_O (u : Option Tr) (v : Value) (w : World) (h : RepO w u v) : Calls Tryd.prog 13 #[v] w fun e w' => e = .returned (.tuple #[.int .i64 (sumU u), .bool (placedU u)]) ∧ Ext w w' := by
  cases u with
  | none =>
    obtain rfl : v = .nilIface := h
    exact callsIn_wide.1 (Place_in 5 (Nat.le_refl _) .nilIface [] w rfl)
  | some t => exact Place_rep t v w h
theorem Path_O (u : Option Tr) (v : Value) (w : World) (h : RepO w u v) (hl : tlen u ≤ 1000000) : Calls Tryd.prog 17 #[v] w fun e w' => e = .returned (.string ⟨(pathU u).toArray⟩) ∧ Ext w w' := by
  cases u with
  | none =>
    obtain rfl : v = .nilIface := h
    exact callsIn_wide.1 (Path_in 5 (Nat.le_refl _) .nilIface [] w rfl (by simp) (by simp [pathOf, wordsOf, Lib.join]))
  | some t => exact Path_rep t v w h hl
theorem tlen_le : ∀ {us : List (Option Tr)} {i : Nat} {u : Option Tr}, us[i]? = some u → tlen u ≤ tsum us
  | [], i, u, h => by simp at h
  | v :: us, 0, u, h => by simp at h; subst h; rw [tsum]; omega
  | v :: us, i + 1, u, h => by
    have := tlen_le (us := us) (i := i) (u := u) (by simpa using h)
    rw [tsum]; omega
/-- A place and a word around a fault. -/
def shell (p : Int) (s : ByteArray) (t : Tr) : Tr := .word s (.place p t)
theorem shell_code (p : Int) (s : ByteArray) (t : Tr) : (shell p s t).codeOf = t.codeOf := by simp [shell, Tr.codeOf]
theorem shell_has (p : Int) (s : ByteArray) (t : Tr) (c : Int) : (shell p s t).has c = t.has c := by simp [shell, Tr.has]
theorem shell_placed (p : Int) (s : ByteArray) (t : Tr) : (shell p s t).placed = true := by simp [shell, Tr.placed, Tr.spine, spIs]
theorem shell_sum (p : Int) (s : ByteArray) (t : Tr) : (shell p s t).sum = wrap64 (t.sum + p) := by
  unfold Tr.sum shell
  rw [Tr.spine, Tr.spine]
  show spSum (wrap64 (0 + p)) t.spine = _
  rw [spSum_add _ _ (wrap_range _)]
  unfold wrap64; omega
theorem sum_none (t : Tr) (h : t.placed = false) : t.sum = 0 := spSum_none _ _ h
theorem sum_range (t : Tr) : -9223372036854775808 ≤ t.sum ∧ t.sum ≤ 9223372036854775807 := spSum_range _ _ (by omega)
theorem shell_path (p : Int) (s : ByteArray) (t : Tr) (h : t.path ≠ []) : (shell p s t).path = s.data.toList ++ [47] ++ t.path := by
  unfold Tr.path shell at *
  rw [Tr.spine, Tr.spine]
  show Lib.join ((s :: spWords t.spine).map (·.data.toList)) [47] = _
  cases hw : spWords t.spine with
  | nil => rw [hw] at h; exact absurd rfl h
  | cons a r => simp [Lib.join, List.intercalate]
end Go.Proofs.YtlcnicgjlddldaaDoor
