/- A builder of bytes, by a name of its own (no numbers written into it). -/
import Derived.Test.YtckdchkegbdiaaaDoorBuild
import Derived.Test.YtckdchkegbdiaaaDoorShelfC
import Derived.Test.YtckdchkegbdiaaaDoorRange
namespace Go.Proofs.YtckdchkegbdiaaaDoor
open Go Go.RowKit

/-- The block b is a strings.Builder of the call's own, that holds these bytes; all that is its own lies from block B on. -/
def IsB (B b : Nat) (l : List UInt8) (w : World) : Prop := Lib.IsBuilderF 81 5 B b (Lib.byteCells l) w
theorem ownsRowF_same {w w' : World} {B : Nat} {e : TypeId} {size : Nat} {v : Value} {n : Nat} {xs : List Value} (h : w.ownsRowF B e size v n xs) (hk : ∀ (k : Nat) (c : Array Value) (f : Nat × Nat), w.heap[k]? = some (.cells c e f) → w'.heap[k]? = w.heap[k]?) : w'.ownsRowF B e size v n xs := by
  obtain ⟨h1, h2⟩ := h
  refine ⟨h1, ?_⟩
  rcases h2 with h2 | ⟨g, cap, cur, fz, e1, e2, e3, e4⟩
  · exact .inl h2
  · exact .inr ⟨g, cap, cur, fz, e1, e2, by rw [hk g _ _ e3]; exact e3, e4⟩
theorem IsB.same {w w' : World} {B b : Nat} {l : List UInt8} (h : IsB B b l w) (hk : ∀ (k : Nat) (c : Array Value) (t : TypeId) (f : Nat × Nat), w.heap[k]? = some (.cells c t f) → t = 81 ∨ t = 5 → w'.heap[k]? = w.heap[k]?) : IsB B b l w' := by
  rcases h with ⟨hB, v, hb, ho, hne⟩ | ⟨hB, v, hb, ho, hne⟩
  · exact .inl ⟨hB, v, by rw [hk b _ _ _ hb (.inl rfl)]; exact hb, ownsRowF_same ho (fun k c f h => hk k c _ f h (.inr rfl)), hne⟩
  · exact .inr ⟨hB, v, by rw [hk b _ _ _ hb (.inl rfl)]; exact hb, ownsRowF_same ho (fun k c f h => hk k c _ f h (.inr rfl)), hne⟩
theorem IsB.set {w : World} {B b k : Nat} {l : List UInt8} {cs : Array Value} {t : TypeId} {f : Nat × Nat} (h : IsB B b l w) (hk : w.heap[k]? = some (.cells cs t f)) (h1 : t ≠ 81) (h2 : t ≠ 5) (i : Nat) (u : Value) : IsB B b l (w.setCell ⟨k, i, none⟩ u) :=
  h.same fun j c t' f' hj ht => Below.heap_setCell _ _ _ _ (fun e => by
    have e' : j = k := e
    rw [e', hk] at hj
    injection hj with hj
    injection hj with _ e2 _
    subst e2
    rcases ht with ht | ht
    · exact h1 ht
    · exact h2 ht)
theorem IsB.ext {w w' : World} (hx : Ext w w') {B b : Nat} {l : List UInt8} (h : IsB B b l w) : IsB B b l w' := h.same fun k _ _ _ hk _ => hx.block k (Array.getElem?_eq_some_iff.1 hk).1
theorem IsB.put {w : World} {B b k : Nat} {l : List UInt8} {o : Obj} (h : IsB B b l w) (hk : w.heap[k]? = some o) (ho : o.isCells = false) (o' : Obj) : IsB B b l (w.putObj k o') := h.same fun j c t f hj _ => World.putObj_heap_other (fun e => by
  subst e
  rw [hk] at hj
  injection hj with hj
  subst hj
  cases ho)
theorem IsB.fresh (w : World) : IsB w.heap.size w.heap.size [] (w.alloc (.cells #[.pointer none, .slice none 0 0] 81)) :=
  Lib.IsBuilderF.of (Lib.fresh_isBuilder 81 5 w)
theorem IsB.lt {B b : Nat} {l : List UInt8} {w : World} (h : IsB B b l w) : b < w.heap.size := by
  rcases h with h | h <;> exact h.lt
/-- A cell of a block that is not the builder's, and no row of bytes, stands. -/
theorem kept_cell {w w' : World} {b k : Nat} {cs : Array Value} {T : TypeId} {fz : Nat × Nat} (hk : Lib.OthersKept 5 (some b) w w') (h : w.heap[k]? = some (.cells cs T fz)) (hb : k ≠ b) (hT : T ≠ 5) : w'.heap[k]? = some (.cells cs T fz) :=
  hk k _ h (fun e => hb (Option.some.inj e)) (fun c f e => hT (by injection e))
/-- WriteString. -/
theorem B_write (B b : Nat) (l : List UInt8) (s : ByteArray) (w : World) (h : IsB B b l w) (hlen : l.length + s.data.toList.length ≤ 140737488355328) (hBw : B ≤ w.heap.size) :
    Calls Tryd.prog 57 #[.pointer (some ⟨b, 0, none⟩), .string s] w fun e w' => e = .returned (.tuple #[.int .i64 s.size, .nilIface]) ∧ IsB B b (l ++ s.data.toList) w' ∧ Below B w w' ∧ Lib.OthersKept 5 (some b) w w' := by
  refine (builder_WriteString B b (Lib.byteCells l) s w h ?_ hBw).mono ?_
  · rw [Lib.byteCells_length]
    have : s.data.toList.length = s.size := Array.length_toList
    omega
  · rintro e w' ⟨h1, h2, h3, h4⟩
    refine ⟨h1, ?_, h3, h4⟩
    unfold IsB
    rw [Lib.byteCells_append, ← Lib.strCells_eq]
    exact h2
/-- String. -/
theorem B_string (B b : Nat) (l : List UInt8) (w : World) (h : IsB B b l w) (hBw : B ≤ w.heap.size) :
    Calls Tryd.prog 59 #[.pointer (some ⟨b, 0, none⟩)] w fun e w' => e = .returned (.string ⟨l.toArray⟩) ∧ Below B w w' ∧ Lib.OthersKept 5 (some b) w w' :=
  (Tryd.Builder_String_any_k B b l w h hBw).mono fun _ _ ⟨h1, _, h3, h4⟩ => ⟨h1, h3, h4⟩
end Go.Proofs.YtckdchkegbdiaaaDoor
