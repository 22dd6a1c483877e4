/- Rows of characters: as arguments, and of a call's own. -/
import Derived.Test.YtgnknliaeoblhabDoorRunesFirst
import Derived.Test.YtgnknliaeoblhabDoorOnly
import Derived.Test.YtgnknliaeoblhabDoorApp
import Derived.Test.YtgnknliaeoblhabDoorProg
import Derived.Maps.AppendAt
import Derived.Deep.AppendLies
import Derived.OwnWalk
import Derived.KernelRfl
namespace Go.Proofs.YtgnknliaeoblhabDoor
open Go Go.RowKit

/-- A slice that reads as a row of numbers. -/
def IsRunes (w : World) (v : Value) (zs : List Int) : Prop :=
  ∃ A c, v = .slice A zs.length c ∧ (zs.length ≤ c ∧ (A = none → c = 0)) ∧ ∀ i n, zs[i]? = some n → isI32 n ∧ ∃ g off, A = some ⟨g, off, none⟩ ∧ w.cell? ⟨g, off + i, none⟩ = some (.int .i32 n)
theorem IsRunes.ext {w w' : World} {v : Value} {zs : List Int} (h : IsRunes w v zs) (hx : Ext w w') : IsRunes w' v zs := by
  obtain ⟨A, c, e, hc, h⟩ := h
  refine ⟨A, c, e, hc, fun i n hi => ?_⟩
  obtain ⟨h1, g, off, h2, h3⟩ := h i n hi
  exact ⟨h1, g, off, h2, hx.cell h3⟩
theorem IsRunes.all {w : World} {v : Value} {zs : List Int} (h : IsRunes w v zs) : ∀ n, n ∈ zs → isI32 n := by
  obtain ⟨A, c, e, hc, h⟩ := h
  intro n hn
  obtain ⟨i, hi⟩ := List.getElem?_of_mem hn
  exact (h i n hi).1
theorem add_off (g off j : Nat) : (⟨g, off, none⟩ : Addr).add j = ⟨g, off + j, none⟩ := by unfold Addr.add; split <;> simp_all
theorem IsRunes.cut {w : World} {A : Option Addr} {c : Nat} {zs : List Int} (h : IsRunes w (.slice A zs.length c) zs) (k : Nat) (hk : k ≤ zs.length) : IsRunes w (.slice A k c) (zs.take k) := by
  obtain ⟨A', c', e, hc, h⟩ := h
  injection e with e1 _ e3
  subst e1 e3
  have hl : (zs.take k).length = k := by rw [List.length_take]; omega
  refine ⟨A, c, by rw [hl], ⟨by have := hc.1; omega, hc.2⟩, fun i n hi => ?_⟩
  have hik : i < k := by
    have := (List.getElem?_eq_some_iff.1 hi).1
    omega
  rw [List.getElem?_take_of_lt hik] at hi
  exact h i n hi
theorem IsRunes.addr {w : World} {A : Option Addr} {n c : Nat} {zs : List Int} (h : IsRunes w (.slice A n c) zs) (hk : 0 < zs.length) : ∃ g off, A = some ⟨g, off, none⟩ := by
  obtain ⟨A', c', e, hc, h⟩ := h
  injection e with e1 _ e3
  subst e1 e3
  obtain ⟨_, g, off, e, _⟩ := h 0 _ (List.getElem?_eq_getElem hk)
  exact ⟨g, off, e⟩
theorem IsRunes.form {w : World} {v : Value} {zs : List Int} (h : IsRunes w v zs) : ∃ A c, v = .slice A zs.length c ∧ zs.length ≤ c ∧ (A = none → c = 0) := by
  obtain ⟨A, c, e, hc, _⟩ := h
  exact ⟨A, c, e, hc.1, hc.2⟩
theorem IsRunes.at {w : World} {A : Option Addr} {n c : Nat} {zs : List Int} (h : IsRunes w (.slice A n c) zs) {i : Nat} {m : Int} (hi : zs[i]? = some m) : isI32 m ∧ ∃ g off, A = some ⟨g, off, none⟩ ∧ w.cell? ⟨g, off + i, none⟩ = some (.int .i32 m) := by
  obtain ⟨A', c', e, _, h⟩ := h
  injection e with e1 _ _
  subst e1
  exact h i m hi
theorem IsRunes.at' {w : World} {g off n c : Nat} {zs : List Int} (h : IsRunes w (.slice (some ⟨g, off, none⟩) n c) zs) {i : Nat} {m : Int} (hi : zs[i]? = some m) : isI32 m ∧ w.cell? ⟨g, off + i, none⟩ = some (.int .i32 m) := by
  obtain ⟨h1, g', off', e, hc⟩ := h.at hi
  injection e with e
  injection e with e1 e2 _
  subst e1 e2
  exact ⟨h1, hc⟩
/-- The first so many of a row. -/
def fewL (zs : List Int) (k : Nat) : List Int := if k < zs.length then zs.take k else zs
theorem fewL_len (zs : List Int) (k : Nat) : (fewL zs k).length ≤ k := by
  unfold fewL; split
  · rw [List.length_take]; omega
  · omega
/-- A row of characters of the call's own. -/
def cellsR (l : List Int) : List Value := l.map fun n => .int .i32 n
theorem cellsR_append (a b : List Int) : cellsR (a ++ b) = cellsR a ++ cellsR b := List.map_append
theorem cellsR_len (l : List Int) : (cellsR l).length = l.length := List.length_map ..
theorem cellsR_one (l : List Int) : ∀ u ∈ cellsR l, u.oneCell' = true := by
  intro u hu
  obtain ⟨_, _, rfl⟩ := List.mem_map.1 hu
  rfl
def OwnR (w : World) (base : Nat) (v : Value) (l : List Int) : Prop := w.ownsRow base 21 1 v l.length (cellsR l)
theorem infoRune : (Tryd.prog.info? 21).map (fun i => (i.zero, i.size, i.bytes)) = some (some (.int .i32 0), 1, 4) := by kernel_rfl
theorem OwnR.nil (w : World) (base : Nat) : OwnR w base (.slice none 0 0) [] := World.ownsRow_nil _ _ _ _
theorem OwnR.more {w : World} {base : Nat} {v : Value} {l m : List Int} (h : w.ownsRow base 21 1 v (l.length + m.length) (cellsR l ++ cellsR m)) : OwnR w base v (l ++ m) := by
  unfold OwnR
  rw [List.length_append, cellsR_append]; exact h
theorem own_kept {w w' : World} {base n : Nat} {e : TypeId} {v : Value} {xs : List Value} (h : w.ownsRow base e 1 v n xs) (hk : ∀ g, base ≤ g → g < w.heap.size → w'.heap[g]? = w.heap[g]?) : w'.ownsRow base e 1 v n xs := by
  obtain ⟨h1, h2⟩ := h
  refine ⟨h1, ?_⟩
  rcases h2 with h2 | ⟨g, cap, cur, e1, e2, e3, e4⟩
  · exact .inl h2
  · refine .inr ⟨g, cap, cur, e1, e2, ?_, e4⟩
    have hlt : g < w.heap.size := by
      rcases Nat.lt_or_ge g w.heap.size with h | h
      · exact h
      · rw [Array.getElem?_eq_none h] at e3; cases e3
    rw [hk g e2 hlt, e3]
theorem OwnR.ext {w w' : World} {base : Nat} {v : Value} {l : List Int} (h : OwnR w base v l) (hx : Ext w w') : OwnR w' base v l := own_kept h fun g _ hg => hx.block g hg
theorem OwnR.only {w w' : World} {base d : Nat} {v : Value} {l : List Int} (h : OwnR w base v l) (hx : Only d w w') (hd : d < base) : OwnR w' base v l := own_kept h fun g hb hg => hx.block g (by omega) hg
theorem OwnR.low {w : World} {B B' : Nat} {v : Value} {l : List Int} (h : OwnR w B v l) (hb : B' ≤ B) : OwnR w B' v l := ownsRow_low h hb
theorem OwnR.isRunes {w : World} {base : Nat} {v : Value} {l : List Int} (h : OwnR w base v l) (ha : ∀ n, n ∈ l → isI32 n) : IsRunes w v l := by
  have hc := fun {g} => World.ownsRow.cells (g := g) h
  obtain ⟨_, h2⟩ := h
  rcases h2 with ⟨rfl, h0⟩ | ⟨g, cap, cur, rfl, _, _, hn, _⟩
  · obtain rfl := List.eq_nil_of_length_eq_zero h0
    exact ⟨none, 0, rfl, ⟨Nat.le_refl _, fun _ => rfl⟩, fun i n hi => by cases hi⟩
  · refine ⟨_, cap, rfl, ⟨hn, fun e => by cases e⟩, fun i n hi => ⟨ha n (List.mem_of_getElem? hi), g, 0, rfl, ?_⟩⟩
    have := hc (g := g) rfl i (.int .i32 n) (by rw [cellsR, List.getElem?_map, hi]; rfl)
    rw [add_off] at this
    exact this
theorem OwnR.form {w : World} {base : Nat} {v : Value} {l : List Int} (h : OwnR w base v l) : ∃ A c, v = .slice A l.length c ∧ (A = none → l.length = 0 ∧ c = 0) := by
  rcases h.2 with ⟨rfl, h0⟩ | ⟨g, cap, cur, rfl, _, _, hn, _⟩
  · exact ⟨none, 0, by rw [h0], fun _ => ⟨h0, rfl⟩⟩
  · exact ⟨_, cap, rfl, fun e => by cases e⟩
theorem OwnR.at {w : World} {base : Nat} {A : Option Addr} {n c : Nat} {l : List Int} (h : OwnR w base (.slice A n c) l) : ∀ B, A = some B → ∀ j u, (cellsR l)[j]? = some u → w.cell? (B.add j) = some u := by
  intro B hB j u hu
  subst hB
  rcases h.2 with ⟨e, _⟩ | ⟨g, cap, cur, e, _⟩
  · injection e with e1 _ _; cases e1
  · injection e with e1 _ _
    obtain rfl := Option.some.inj e1
    exact World.ownsRow.cells h rfl j u hu
theorem ext_grown {w0 w w' : World} {base n : Nat} {e : TypeId} {v : Value} {xs : List Value} (h : Ext w0 w) (ho : w.ownsRow base e 1 v n xs) (hg : w.grownBy w' v.ownBlock) (hb : w0.heap.size ≤ base) : Ext w0 w' :=
  Below.grown h hg h.size fun k hk => by have := (ho.lt k hk).1; omega
theorem only_grown {w0 w w' : World} {d base n : Nat} {e : TypeId} {v : Value} {xs : List Value} (h : Only d w0 w) (ho : w.ownsRow base e 1 v n xs) (hg : w.grownBy w' v.ownBlock) (hb : w0.heap.size ≤ base) : Only d w0 w' := by
  obtain ⟨g1, g2, g3, g4, g5⟩ := hg
  refine ⟨g1.trans h.os, g2.trans h.tape, g3.trans h.output, Nat.le_trans h.size g4, fun k hk hl => ?_⟩
  have hl' : k < w.heap.size := Nat.lt_of_lt_of_le hl h.size
  refine (g5 k hl' ?_).trans (h.block k hk hl)
  intro hq
  have := (ho.lt k hq.symm).1
  omega
end Go.Proofs.YtgnknliaeoblhabDoor
