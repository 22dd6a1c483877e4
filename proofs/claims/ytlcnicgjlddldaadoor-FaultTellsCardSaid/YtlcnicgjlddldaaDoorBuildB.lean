/- A builder of bytes, by a name of its own; numbers written into it. -/
import Derived.Test.YtlcnicgjlddldaaDoorBuild
import Derived.Test.YtlcnicgjlddldaaDoorShelf
import Derived.Test.YtlcnicgjlddldaaDoorLaid
import Derived.Lib.AppendIntMem
namespace Go.Proofs.YtlcnicgjlddldaaDoor
open Go Go.RowKit

/-- The block b is a strings.Builder of the call's own, that holds these bytes; all that is its own lies from block B on. -/
def IsB (B b : Nat) (l : List UInt8) (w : World) : Prop := Lib.IsBuilderF 88 5 B b (Lib.byteCells l) w

theorem heap_ext {w w' : World} (hx : Ext w w') {k : Nat} {o : Obj} (h : w.heap[k]? = some o) : w'.heap[k]? = some o := by
  have hl : k < w.heap.size := by
    rcases Nat.lt_or_ge k w.heap.size with h' | h'
    · exact h'
    · rw [Array.getElem?_eq_none h'] at h; cases h
  rw [Below.block hx _ hl]; exact h

theorem ownsRowF_ext {w w' : World} (hx : Ext w w') {B : Nat} {e : TypeId} {size : Nat} {v : Value} {n : Nat} {xs : List Value} (h : w.ownsRowF B e size v n xs) : w'.ownsRowF B e size v n xs := by
  obtain ⟨h1, h2⟩ := h
  refine ⟨h1, ?_⟩
  rcases h2 with h2 | ⟨g, cap, cur, fz, e1, e2, e3, e4⟩
  · exact .inl h2
  · exact .inr ⟨g, cap, cur, fz, e1, e2, heap_ext hx e3, e4⟩

theorem IsB.ext {w w' : World} (hx : Ext w w') {B b : Nat} {l : List UInt8} (h : IsB B b l w) : IsB B b l w' := by
  rcases h with ⟨hB, v, hb, ho, hne⟩ | ⟨hB, v, hb, ho, hne⟩
  · exact .inl ⟨hB, v, heap_ext hx hb, ownsRowF_ext hx ho, hne⟩
  · exact .inr ⟨hB, v, heap_ext hx hb, ownsRowF_ext hx ho, hne⟩

theorem IsB.fresh (w : World) : IsB w.heap.size w.heap.size [] (w.alloc (.cells #[.pointer none, .slice none 0 0] 88)) :=
  Lib.IsBuilderF.of (Lib.fresh_isBuilder 88 5 w)

theorem IsB.lt {B b : Nat} {l : List UInt8} {w : World} (h : IsB B b l w) : b < w.heap.size := by
  rcases h with h | h <;> exact h.lt
/-- A cell of a block that is not the builder's, and no row of bytes, stands. -/
theorem kept_cell {w w' : World} {b k : Nat} {cs : Array Value} {T : TypeId} {fz : Nat × Nat} (hk : Lib.OthersKept 5 (some b) w w') (h : w.heap[k]? = some (.cells cs T fz)) (hb : k ≠ b) (hT : T ≠ 5) : w'.heap[k]? = some (.cells cs T fz) :=
  hk k _ h (fun e => hb (Option.some.inj e)) (fun c f e => hT (by injection e))

/-- WriteString. -/
theorem B_write (B b : Nat) (l : List UInt8) (s : ByteArray) (w : World) (h : IsB B b l w) (hlen : l.length + s.data.toList.length ≤ 140737488355328) (hBw : B ≤ w.heap.size) :
    Calls Tryd.prog 65 #[.pointer (some ⟨b, 0, none⟩), .string s] w fun e w' => e = .returned (.tuple #[.int .i64 s.size, .nilIface]) ∧ IsB B b (l ++ s.data.toList) w' ∧ Below B w w' ∧ Lib.OthersKept 5 (some b) w w' := by
  refine (builder_WriteString B b (Lib.byteCells l) s w h ?_ hBw).mono ?_
  · rw [Lib.byteCells_length]
    have : s.data.toList.length = s.size := Array.length_toList
    omega
  · rintro e w' ⟨h1, h2, h3, h4⟩
    refine ⟨h1, ?_, h3, h4⟩
    unfold IsB
    rw [Lib.byteCells_append, ← Lib.strCells_eq]
    exact h2

/-- String. -/
theorem B_string (B b : Nat) (l : List UInt8) (w : World) (h : IsB B b l w) (hBw : B ≤ w.heap.size) :
    Calls Tryd.prog 45 #[.pointer (some ⟨b, 0, none⟩)] w fun e w' => e = .returned (.string ⟨l.toArray⟩) ∧ Below B w w' :=
  (Tryd.Builder_String_any_k B b l w h hBw).mono fun _ _ ⟨h1, _, h3, _⟩ => ⟨h1, h3⟩

/-- strconv.Itoa. -/
theorem itoa_ext (n : Int) (h0 : -9223372036854775808 ≤ n) (h1 : n ≤ 9223372036854775807) (w : World) (hp : Pow10 w) :
    Calls Tryd.prog 66 #[.int .i64 n] w fun e w' => e = .returned (.string ⟨(Lib.itoa n).toArray⟩) ∧ Ext w w' :=
  (Tryd.strconv_Itoa n h0 h1 w hp).mono fun _ _ ⟨h1, k, os, h2⟩ => ⟨h1, by
    subst h2
    exact Lib.below_grow _ w (Nat.le_refl _) k os⟩
end Go.Proofs.YtlcnicgjlddldaaDoor
