/- Characters are appended to a row of the call's own. -/
import Derived.Test.YtmppbmbhnoaggabRunesRow
namespace Go.Proofs.Ytmppbmbhnoaggab
open Go Go.RowKit

/-- What an append of characters leaves. -/
structure Appended (base : Nat) (v : Value) (W : World) (l : List Int) (v' : Value) (w' : World) : Prop where
  own : OwnR w' base v' l
  grown : W.grownBy w' v.ownBlock
section
variable {W : World} {ops : Array Oper} {rest : List Oper} {o : Oper} {a : Act} {Q : Exit → Act → World → Prop}
theorem wpList_app_rune (hgd : o.guard = none) (s x : Operand) (ho : o.op = .call { callee := .builtin .append, args := #[s, x], argTypes := #[22, 22] })
    (base : Nat) (v : Value) (out : List Int) (hs : a.eval s = v) (hown : OwnR W base v out) (G : Nat) (r : Int) (hx : a.eval x = .slice (some ⟨G, 0, none⟩) 1 1) (hcell : W.cell? ⟨G, 0, none⟩ = some (.int .i32 r))
    (hlen : out.length ≤ 2000000) (hbase : base ≤ W.heap.size) (h : ∀ v' w', Appended base v W (out ++ [r]) v' w' → wpList Try.prog ops Q rest (a.put o.dst v') w') : wpList Try.prog ops Q (o :: rest) a W := by
  obtain ⟨i0, hi0, hz0, hz1, hz2⟩ := info_parts infoRune
  refine wpList_append_own_at W hgd s x 22 ho base 21 i0 _ 1 4 Try.underlying22 hi0 hz0 hz1 hz2 rfl (by omega) v out.length (cellsR out) hs hown ⟨G, 0, none⟩ 1 1 [.int .i32 r] hx rfl ?_ (fun y hy => by rw [List.mem_singleton.1 hy]; rfl) (by unfold maxLen; omega) (by omega) hbase ?_
  · intro j u hj
    have hj0 : j = 0 := by
      have := (List.getElem?_eq_some_iff.1 hj).1
      simp at this; omega
    subst hj0
    rw [add_off, hcell]
    simpa using hj
  · intro v' w' h1 h2 _ _
    exact h v' w' ⟨OwnR.more (m := [r]) h1, h2⟩
theorem wpList_app_runes (hgd : o.guard = none) (s x : Operand) (ho : o.op = .call { callee := .builtin .append, args := #[s, x], argTypes := #[22, 22] })
    (base : Nat) (v : Value) (out : List Int) (hs : a.eval s = v) (hown : OwnR W base v out) (base2 : Nat) (x' : Value) (l : List Int) (hx : a.eval x = x') (hown2 : OwnR W base2 x' l)
    (hlen : out.length ≤ 2000000) (hlen2 : l.length ≤ 2000000) (hbase : base ≤ W.heap.size) (h : ∀ v' w', Appended base v W (out ++ l) v' w' → wpList Try.prog ops Q rest (a.put o.dst v') w') : wpList Try.prog ops Q (o :: rest) a W := by
  obtain ⟨i0, hi0, hz0, hz1, hz2⟩ := info_parts infoRune
  obtain ⟨A, c, rfl, hc⟩ := hown2.form
  have hat := hown2.at
  exact wpList_append_opt hgd s x 22 ho base 21 i0 _ 1 4 Try.underlying22 hi0 hz0 hz1 hz2 rfl (by omega) v out.length (cellsR out) hs hown A l.length c (cellsR l) hx hc (by rw [cellsR_len, Nat.mul_one]) hat (cellsR_one l) (by unfold maxLen; omega) (by omega) hbase
    fun v' w' h1 h2 => h v' w' ⟨OwnR.more h1, h2⟩
end
end Go.Proofs.Ytmppbmbhnoaggab
