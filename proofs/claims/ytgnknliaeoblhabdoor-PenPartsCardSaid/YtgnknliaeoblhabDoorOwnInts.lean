/- A row of numbers of the call's own; a number appended. -/
import Derived.Test.YtgnknliaeoblhabDoorRunesRow
import Derived.Test.YtgnknliaeoblhabDoorCutInts
namespace Go.Proofs.YtgnknliaeoblhabDoor
open Go Go.RowKit

/-- A row of numbers of the call's own. -/
def cellsI (l : List Int) : List Value := l.map fun n => .int .i64 n
theorem cellsI_append (a b : List Int) : cellsI (a ++ b) = cellsI a ++ cellsI b := List.map_append
theorem cellsI_len (l : List Int) : (cellsI l).length = l.length := List.length_map ..
theorem cellsI_one (l : List Int) : ∀ u ∈ cellsI l, u.oneCell' = true := by
  intro u hu
  obtain ⟨_, _, rfl⟩ := List.mem_map.1 hu
  rfl
def OwnI (w : World) (base : Nat) (v : Value) (l : List Int) : Prop := w.ownsRow base 3 1 v l.length (cellsI l)
theorem infoIntI : (Tryd.prog.info? 3).map (fun i => (i.zero, i.size, i.bytes)) = some (some (.int .i64 0), 1, 8) := by kernel_rfl
theorem OwnI.nil (w : World) (base : Nat) : OwnI w base (.slice none 0 0) [] := World.ownsRow_nil _ _ _ _
theorem OwnI.more {w : World} {base : Nat} {v : Value} {l m : List Int} (h : w.ownsRow base 3 1 v (l.length + m.length) (cellsI l ++ cellsI m)) : OwnI w base v (l ++ m) := by
  unfold OwnI
  rw [List.length_append, cellsI_append]; exact h
theorem OwnI.ext {w w' : World} {base : Nat} {v : Value} {l : List Int} (h : OwnI w base v l) (hx : Ext w w') : OwnI w' base v l := own_kept h fun g _ hg => hx.block g hg
theorem OwnI.only {w w' : World} {base d : Nat} {v : Value} {l : List Int} (h : OwnI w base v l) (hx : Only d w w') (hd : d < base) : OwnI w' base v l := own_kept h fun g hb hg => hx.block g (by omega) hg
theorem OwnI.low {w : World} {B B' : Nat} {v : Value} {l : List Int} (h : OwnI w B v l) (hb : B' ≤ B) : OwnI w B' v l := ownsRow_low h hb
theorem OwnI.isInts {w : World} {base : Nat} {v : Value} {l : List Int} (h : OwnI w base v l) (ha : ∀ n, n ∈ l → isI64 n) : IsInts w v l := by
  have hc := fun {g} => World.ownsRow.cells (g := g) h
  obtain ⟨_, h2⟩ := h
  rcases h2 with ⟨rfl, h0⟩ | ⟨g, cap, cur, rfl, _, _, hn, _⟩
  · obtain rfl := List.eq_nil_of_length_eq_zero h0
    exact ⟨none, 0, rfl, ⟨Nat.le_refl _, fun _ => rfl⟩, fun i n hi => by cases hi⟩
  · refine ⟨_, cap, rfl, ⟨hn, fun e => by cases e⟩, fun i n hi => ⟨ha n (List.mem_of_getElem? hi), g, 0, rfl, ?_⟩⟩
    have := hc (g := g) rfl i (.int .i64 n) (by rw [cellsI, List.getElem?_map, hi]; rfl)
    rw [add_off] at this
    exact this
theorem OwnI.form {w : World} {base : Nat} {v : Value} {l : List Int} (h : OwnI w base v l) : ∃ A c, v = .slice A l.length c ∧ (A = none → l.length = 0 ∧ c = 0) := by
  rcases h.2 with ⟨rfl, h0⟩ | ⟨g, cap, cur, rfl, _, _, hn, _⟩
  · exact ⟨none, 0, by rw [h0], fun _ => ⟨h0, rfl⟩⟩
  · exact ⟨_, cap, rfl, fun e => by cases e⟩
theorem OwnI.at {w : World} {base : Nat} {A : Option Addr} {n c : Nat} {l : List Int} (h : OwnI w base (.slice A n c) l) : ∀ B, A = some B → ∀ j u, (cellsI l)[j]? = some u → w.cell? (B.add j) = some u := by
  intro B hB j u hu
  subst hB
  rcases h.2 with ⟨e, _⟩ | ⟨g, cap, cur, e, _⟩
  · injection e with e1 _ _; cases e1
  · injection e with e1 _ _
    obtain rfl := Option.some.inj e1
    exact World.ownsRow.cells h rfl j u hu
/-- What an append of numbers leaves. -/
structure AppendedI (base : Nat) (v : Value) (W : World) (l : List Int) (v' : Value) (w' : World) : Prop where
  own : OwnI w' base v' l
  grown : W.grownBy w' v.ownBlock
section
variable {W : World} {ops : Array Oper} {rest : List Oper} {o : Oper} {a : Act} {Q : Exit → Act → World → Prop}
theorem wpList_app_int (hgd : o.guard = none) (s x : Operand) (ho : o.op = .call { callee := .builtin .append, args := #[s, x], argTypes := #[40, 40] })
    (base : Nat) (v : Value) (out : List Int) (hs : a.eval s = v) (hown : OwnI W base v out) (G : Nat) (r : Int) (hx : a.eval x = .slice (some ⟨G, 0, none⟩) 1 1) (hcell : W.cell? ⟨G, 0, none⟩ = some (.int .i64 r))
    (hlen : out.length ≤ 2000000) (hbase : base ≤ W.heap.size) (h : ∀ v' w', AppendedI base v W (out ++ [r]) v' w' → wpList Tryd.prog ops Q rest (a.put o.dst v') w') : wpList Tryd.prog ops Q (o :: rest) a W := by
  obtain ⟨i0, hi0, hz0, hz1, hz2⟩ := info_parts infoIntI
  refine wpList_append_own_at W hgd s x 40 ho base 3 i0 _ 1 8 Tryd.underlying40 hi0 hz0 hz1 hz2 rfl (by omega) v out.length (cellsI out) hs hown ⟨G, 0, none⟩ 1 1 [.int .i64 r] hx rfl ?_ (fun y hy => by rw [List.mem_singleton.1 hy]; rfl) (by unfold maxLen; omega) (by omega) hbase ?_
  · intro j u hj
    have hj0 : j = 0 := by
      have := (List.getElem?_eq_some_iff.1 hj).1
      simp at this; omega
    subst hj0
    rw [add_off, hcell]
    simpa using hj
  · intro v' w' h1 h2 _ _
    exact h v' w' ⟨OwnI.more (m := [r]) h1, h2⟩
end
end Go.Proofs.YtgnknliaeoblhabDoor
