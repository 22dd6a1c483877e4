/- Rows of cells: as arguments, and of a call's own. -/
import Derived.Test.YtgnknliaeoblhabDoorCelOne
import Derived.Test.YtgnknliaeoblhabDoorApp
import Derived.Test.YtgnknliaeoblhabDoorRunesRow
namespace Go.Proofs.YtgnknliaeoblhabDoor
open Go Go.RowKit

/-- A slice that reads as a row of cells. -/
def IsCells (w : World) (v : Value) (l : List Cel) : Prop :=
  ∃ A c, v = .slice A l.length c ∧ (l.length ≤ c ∧ (A = none → c = 0)) ∧ ∀ i x, l[i]? = some x → x.ok ∧ ∃ g off, A = some ⟨g, off, none⟩ ∧ CelAt w g (off + i * 4) x
theorem IsCells.ext {w w' : World} {v : Value} {l : List Cel} (h : IsCells w v l) (hx : Ext w w') : IsCells w' v l := by
  obtain ⟨A, c, e, hc, h⟩ := h
  refine ⟨A, c, e, hc, fun i n hi => ?_⟩
  obtain ⟨h1, g, off, h2, h3⟩ := h i n hi
  exact ⟨h1, g, off, h2, h3.ext hx⟩
theorem IsCells.all {w : World} {v : Value} {l : List Cel} (h : IsCells w v l) : ∀ x, x ∈ l → x.ok := by
  obtain ⟨A, c, e, hc, h⟩ := h
  intro n hn
  obtain ⟨i, hi⟩ := List.getElem?_of_mem hn
  exact (h i n hi).1
theorem IsCells.form {w : World} {v : Value} {l : List Cel} (h : IsCells w v l) : ∃ A c, v = .slice A l.length c ∧ l.length ≤ c ∧ (A = none → c = 0) := by
  obtain ⟨A, c, e, hc, _⟩ := h
  exact ⟨A, c, e, hc.1, hc.2⟩
theorem IsCells.at {w : World} {A : Option Addr} {n c : Nat} {l : List Cel} (h : IsCells w (.slice A n c) l) {i : Nat} {x : Cel} (hi : l[i]? = some x) : x.ok ∧ ∃ g off, A = some ⟨g, off, none⟩ ∧ CelAt w g (off + i * 4) x := by
  obtain ⟨A', c', e, _, h⟩ := h
  injection e with e1 _ _
  subst e1
  exact h i x hi
theorem IsCells.at' {w : World} {g off n c : Nat} {l : List Cel} (h : IsCells w (.slice (some ⟨g, off, none⟩) n c) l) {i : Nat} {x : Cel} (hi : l[i]? = some x) : x.ok ∧ CelAt w g (off + i * 4) x := by
  obtain ⟨h1, g', off', e, hc⟩ := h.at hi
  injection e with e
  injection e with e1 e2 _
  subst e1 e2
  exact ⟨h1, hc⟩
theorem IsCells.addr {w : World} {A : Option Addr} {n c : Nat} {l : List Cel} (h : IsCells w (.slice A n c) l) (hk : 0 < l.length) : ∃ g off, A = some ⟨g, off, none⟩ := by
  obtain ⟨_, g, off, e, _⟩ := h.at (List.getElem?_eq_getElem hk)
  exact ⟨g, off, e⟩
theorem IsCells.len {w : World} {A : Option Addr} {n c : Nat} {l : List Cel} (h : IsCells w (.slice A n c) l) : n = l.length ∧ n ≤ c := by
  obtain ⟨A', c', e, hc, _⟩ := h
  injection e with _ e2 e3
  subst e2 e3
  exact ⟨rfl, hc.1⟩
theorem IsCells.cut {w : World} {A : Option Addr} {n c : Nat} {l : List Cel} (h : IsCells w (.slice A n c) l) (k : Nat) (hk : k ≤ l.length) : IsCells w (.slice A k c) (l.take k) := by
  obtain ⟨A', c', e, hc, h⟩ := h
  injection e with e1 _ e3
  subst e1 e3
  have hl : (l.take k).length = k := by rw [List.length_take]; omega
  refine ⟨A, c, by rw [hl], ⟨by have := hc.1; omega, hc.2⟩, fun i x hi => ?_⟩
  have hik : i < k := by
    have := (List.getElem?_eq_some_iff.1 hi).1
    omega
  rw [List.getElem?_take_of_lt hik] at hi
  exact h i x hi
theorem IsCells.drop {w : World} {g off n c : Nat} {l : List Cel} (h : IsCells w (.slice (some ⟨g, off, none⟩) n c) l) (k : Nat) (hk : k ≤ l.length) : IsCells w (.slice (some ⟨g, off + k * 4, none⟩) (l.length - k) (c - k)) (l.drop k) := by
  have hn := h.len
  refine ⟨some ⟨g, off + k * 4, none⟩, c - k, by rw [List.length_drop], ⟨by rw [List.length_drop]; omega, fun e => by cases e⟩, fun i x hi => ?_⟩
  rw [List.getElem?_drop] at hi
  obtain ⟨h1, h2⟩ := h.at' hi
  refine ⟨h1, g, off + k * 4, rfl, ?_⟩
  rwa [show off + k * 4 + i * 4 = off + (k + i) * 4 by omega]
theorem IsCells.none {w : World} {n c : Nat} {l : List Cel} (h : IsCells w (.slice none n c) l) : l = [] ∧ n = 0 ∧ c = 0 := by
  obtain ⟨A', c', e, hc, _⟩ := h
  injection e with e1 e2 e3
  subst e1 e2 e3
  have h0 := hc.2 rfl
  subst h0
  have h1 : l.length = 0 := by have := hc.1; omega
  exact ⟨List.eq_nil_of_length_eq_zero h1, h1, rfl⟩
/-- The first so many of a row of cells. -/
def fewC (l : List Cel) (k : Nat) : List Cel := if k < l.length then l.take k else l
theorem fewC_len (l : List Cel) (k : Nat) : (fewC l k).length ≤ k := by
  unfold fewC; split
  · rw [List.length_take]; omega
  · omega
/-- A row of cells of the call's own. -/
def cellsC (l : List Cel) : List Value := l.flatMap Cel.cells
theorem cellsC_append (a b : List Cel) : cellsC (a ++ b) = cellsC a ++ cellsC b := by simp [cellsC]
theorem cellsC_nil : cellsC [] = [] := rfl
theorem cellsC_cons (c : Cel) (l : List Cel) : cellsC (c :: l) = c.cells ++ cellsC l := rfl
theorem cellsC_len : ∀ (l : List Cel), (cellsC l).length = l.length * 4
  | [] => rfl
  | c :: l => by rw [cellsC_cons, List.length_append, cellsC_len l]; simp [Cel.cells]; omega
theorem cellsC_one (l : List Cel) : ∀ u ∈ cellsC l, u.oneCell' = true := by
  intro u hu
  obtain ⟨c, _, hc⟩ := List.mem_flatMap.1 hu
  simp only [Cel.cells, List.mem_cons, List.not_mem_nil, or_false] at hc
  rcases hc with rfl | rfl | rfl | rfl <;> rfl
theorem cellsC_at : ∀ (l : List Cel) (i j : Nat) (c : Cel) (u : Value), l[i]? = some c → c.cells[j]? = some u → (cellsC l)[i * 4 + j]? = some u
  | [], _, _, _, _, h, _ => by cases h
  | d :: l, 0, j, c, u, h, hj => by
    obtain rfl : d = c := by simpa using h
    rw [cellsC_cons, Nat.zero_mul, Nat.zero_add, List.getElem?_append_left (List.getElem?_eq_some_iff.1 hj).1]
    exact hj
  | d :: l, i + 1, j, c, u, h, hj => by
    have hd : d.cells.length = 4 := rfl
    rw [cellsC_cons, List.getElem?_append_right (by omega), hd, show (i + 1) * 4 + j - 4 = i * 4 + j by omega]
    exact cellsC_at l i j c u h hj
def OwnC (w : World) (base : Nat) (v : Value) (l : List Cel) : Prop := w.ownsRow base 23 4 v l.length (cellsC l)
theorem infoCell : (Tryd.prog.info? 23).map (fun i => (i.zero, i.size, i.bytes)) = some (some (.agg #[.int .i32 0, .int .u8 0, .int .u8 0, .int .u8 0]), 4, 8) := by kernel_rfl
theorem OwnC.nil (w : World) (base : Nat) : OwnC w base (.slice none 0 0) [] := World.ownsRow_nil _ _ _ _
theorem OwnC.more {w : World} {base : Nat} {v : Value} {l m : List Cel} (h : w.ownsRow base 23 4 v (l.length + m.length) (cellsC l ++ cellsC m)) : OwnC w base v (l ++ m) := by
  unfold OwnC
  rw [List.length_append, cellsC_append]; exact h
theorem own_kept4 {w w' : World} {base n z : Nat} {e : TypeId} {v : Value} {xs : List Value} (h : w.ownsRow base e z v n xs) (hk : ∀ g, base ≤ g → g < w.heap.size → w'.heap[g]? = w.heap[g]?) : w'.ownsRow base e z v n xs := by
  obtain ⟨h1, h2⟩ := h
  refine ⟨h1, ?_⟩
  rcases h2 with h2 | ⟨g, cap, cur, e1, e2, e3, e4⟩
  · exact .inl h2
  · refine .inr ⟨g, cap, cur, e1, e2, ?_, e4⟩
    have hlt : g < w.heap.size := by
      rcases Nat.lt_or_ge g w.heap.size with h | h
      · exact h
      · rw [Array.getElem?_eq_none h] at e3; cases e3
    rw [hk g e2 hlt, e3]
theorem OwnC.ext {w w' : World} {base : Nat} {v : Value} {l : List Cel} (h : OwnC w base v l) (hx : Ext w w') : OwnC w' base v l := own_kept4 h fun g _ hg => hx.block g hg
theorem OwnC.low {w : World} {B B' : Nat} {v : Value} {l : List Cel} (h : OwnC w B v l) (hb : B' ≤ B) : OwnC w B' v l := ownsRow_low h hb
theorem OwnC.isCells {w : World} {base : Nat} {v : Value} {l : List Cel} (h : OwnC w base v l) (ha : ∀ x, x ∈ l → x.ok) : IsCells w v l := by
  have hc := fun {g} => World.ownsRow.cells (g := g) h
  obtain ⟨_, h2⟩ := h
  rcases h2 with ⟨rfl, h0⟩ | ⟨g, cap, cur, rfl, _, _, hn, _⟩
  · obtain rfl := List.eq_nil_of_length_eq_zero h0
    exact ⟨none, 0, rfl, ⟨Nat.le_refl _, fun _ => rfl⟩, fun i n hi => by cases hi⟩
  · refine ⟨_, cap, rfl, ⟨hn, fun e => by cases e⟩, fun i x hi => ⟨ha x (List.mem_of_getElem? hi), g, 0, rfl, fun j u hu => ?_⟩⟩
    have := hc (g := g) rfl (i * 4 + j) u (cellsC_at l i j x u hi hu)
    rw [add_off] at this
    rw [Nat.add_assoc]
    exact this
theorem OwnC.form {w : World} {base : Nat} {v : Value} {l : List Cel} (h : OwnC w base v l) : ∃ A c, v = .slice A l.length c ∧ (A = none → l.length = 0 ∧ c = 0) := by
  rcases h.2 with ⟨rfl, h0⟩ | ⟨g, cap, cur, rfl, _, _, hn, _⟩
  · exact ⟨none, 0, by rw [h0], fun _ => ⟨h0, rfl⟩⟩
  · exact ⟨_, cap, rfl, fun e => by cases e⟩
theorem IsCells.news {w : World} {A : Option Addr} {n c : Nat} {l : List Cel} (h : IsCells w (.slice A n c) l) : ∀ B, A = some B → ∀ j u, (cellsC l)[j]? = some u → w.cell? (B.add j) = some u := by
  intro B hB j u hu
  subst hB
  have hj : j < l.length * 4 := by rw [← cellsC_len]; exact (List.getElem?_eq_some_iff.1 hu).1
  have hi : l[j / 4]? = some (l[j / 4]'(by omega)) := List.getElem?_eq_getElem (by omega)
  obtain ⟨_, g, off, e, hat⟩ := h.at hi
  obtain rfl := Option.some.inj e
  rw [add_off]
  have hy4 : j % 4 < (l[j / 4]'(by omega)).cells.length := Nat.mod_lt _ (by decide)
  obtain ⟨y, hy⟩ : ∃ y, (l[j / 4]'(by omega)).cells[j % 4]? = some y := ⟨_, List.getElem?_eq_getElem hy4⟩
  have h2 := cellsC_at l (j / 4) (j % 4) _ y hi hy
  rw [show j / 4 * 4 + j % 4 = j by omega] at h2
  rw [h2] at hu
  injection hu with hu
  subst hu
  have := hat (j % 4) y hy
  rwa [show off + j / 4 * 4 + j % 4 = off + j by omega] at this
theorem ext_grown4 {w0 w w' : World} {base n z : Nat} {e : TypeId} {v : Value} {xs : List Value} (h : Ext w0 w) (ho : w.ownsRow base e z v n xs) (hg : w.grownBy w' v.ownBlock) (hb : w0.heap.size ≤ base) : Ext w0 w' :=
  Below.grown h hg h.size fun k hk => by have := (ho.lt k hk).1; omega
/-- A row that a call lays out itself. -/
theorem OwnC.new (w : World) (l : List Cel) (hm : l.length ≤ maxLen) : OwnC (w.alloc (.cells (cellsC l).toArray 23)) w.heap.size (.slice (some ⟨w.heap.size, 0, none⟩) l.length l.length) l := by
  refine ⟨cellsC_len l, .inr ⟨w.heap.size, l.length, (cellsC l).toArray, rfl, Nat.le_refl _, Go.heap_alloc_new _ _, Nat.le_refl _, hm, by simp [cellsC_len], ?_⟩⟩
  rw [← cellsC_len, List.take_length]
end Go.Proofs.YtgnknliaeoblhabDoor
