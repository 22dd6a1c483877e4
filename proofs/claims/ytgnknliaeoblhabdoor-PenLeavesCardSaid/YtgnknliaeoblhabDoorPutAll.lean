/- A row of numbers is put: nums.Put, nums.PutText. -/
import Derived.Test.YtgnknliaeoblhabDoorPut
import Derived.Lib.Builder
namespace Go.Proofs.YtgnknliaeoblhabDoor
open Go Go.RowKit

/-- The bytes of numbers, one behind the other. -/
def putN (zs : List Int) : List UInt8 := (zs.map fun n => encN (foldN n)).flatten
theorem putN_append (a b : List Int) : putN (a ++ b) = putN a ++ putN b := by
  unfold putN; rw [List.map_append, List.flatten_append]
theorem putN_one (n : Int) : putN [n] = encN (foldN n) := by simp [putN]
theorem putN_take (zs : List Int) (i : Nat) (n : Int) (h : zs[i]? = some n) : putN (zs.take (i + 1)) = putN (zs.take i) ++ encN (foldN n) := by
  rw [List.take_add_one, h, putN_append]; simp [putN]
def isI64 (n : Int) : Prop := -9223372036854775808 ≤ n ∧ n ≤ 9223372036854775807
theorem putN_len : ∀ (zs : List Int), (∀ n, n ∈ zs → isI64 n) → (putN zs).length ≤ 10 * zs.length
  | [], _ => by simp [putN]
  | n :: zs, h => by
    have h1 := putN_len zs fun m hm => h m (List.mem_cons_of_mem _ hm)
    have h2 := h n (List.mem_cons_self ..)
    have h3 := encN_len10 (foldN_lt h2.1 h2.2)
    rw [show putN (n :: zs) = encN (foldN n) ++ putN zs from by simp [putN], List.length_append, List.length_cons]
    omega
/-- A slice that reads as a row of numbers. -/
def IsInts (w : World) (v : Value) (zs : List Int) : Prop :=
  ∃ A c, v = .slice A zs.length c ∧ (zs.length ≤ c ∧ (A = none → c = 0)) ∧ ∀ i n, zs[i]? = some n → isI64 n ∧ ∃ g off, A = some ⟨g, off, none⟩ ∧ w.cell? ⟨g, off + i, none⟩ = some (.int .i64 n)
theorem IsInts.ext {w w' : World} {v : Value} {zs : List Int} (h : IsInts w v zs) (hx : Ext w w') : IsInts w' v zs := by
  obtain ⟨A, c, e, hc, h⟩ := h
  refine ⟨A, c, e, hc, fun i n hi => ?_⟩
  obtain ⟨h1, g, off, h2, h3⟩ := h i n hi
  exact ⟨h1, g, off, h2, hx.cell h3⟩
theorem IsInts.all {w : World} {v : Value} {zs : List Int} (h : IsInts w v zs) : ∀ n, n ∈ zs → isI64 n := by
  obtain ⟨A, c, e, hc, h⟩ := h
  intro n hn
  obtain ⟨i, hi⟩ := List.getElem?_of_mem hn
  exact (h i n hi).1
theorem add_off (g off j : Nat) : (⟨g, off, none⟩ : Addr).add j = ⟨g, off + j, none⟩ := by unfold Addr.add; split <;> simp_all
theorem conv_own (w : World) (base g cap : Nat) (l : List UInt8) (h : OwnB w base (.slice (some ⟨g, 0, none⟩) l.length cap) l) : (convert 68 9 (.slice (some ⟨g, 0, none⟩) l.length cap)).run Tryd.prog w = .ok (.string ⟨l.toArray⟩) w :=
  run_convert_bytes_back w _ _ 5 ⟨g, 0, none⟩ cap l Tryd.underlying68 Tryd.underlying5 Tryd.underlying9 fun j hj => by
    refine World.ownsRow.cells h rfl j _ ?_
    rw [cellsB, List.getElem?_map, List.getElem?_eq_getElem hj]
    rfl
theorem ints_new (w : World) (l : List Int) (T : TypeId) (h : ∀ n, n ∈ l → isI64 n) : IsInts (w.alloc (.cells (l.map (Value.int .i64)).toArray T)) (.slice (some ⟨w.heap.size, 0, none⟩) l.length l.length) l := by
  refine ⟨_, _, rfl, ⟨Nat.le_refl _, fun h => by cases h⟩, fun i n hi => ⟨h n (List.mem_of_getElem? hi), _, _, rfl, ?_⟩⟩
  rw [Lib.cell_of_heap (Go.heap_alloc_new _ _), Nat.zero_add]
  rw [List.getElem?_toArray, List.getElem?_map, hi]; rfl
end Go.Proofs.YtgnknliaeoblhabDoor
