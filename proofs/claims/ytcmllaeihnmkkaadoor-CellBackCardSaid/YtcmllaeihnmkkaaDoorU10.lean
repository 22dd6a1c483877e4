/- An append of a part that may be nothing. · Rows of characters: as arguments, and of a call's own. · Rows of cells: as arguments, and of a call's own. · A run of a row's bytes: cell.readRun. -/
import Derived.Test.YtcmllaeihnmkkaaDoorU1
import Derived.Test.YtcmllaeihnmkkaaDoorU7
import Derived.Test.YtcmllaeihnmkkaaDoorU8
import Derived.Test.YtcmllaeihnmkkaaDoorU9
import Derived.WalkKit
import Derived.Deep.AppendLies
import Derived.Laws.AppendOwnNone
import Derived.Test.YtcmllaeihnmkkaaDoorProg
import Derived.Maps.AppendAt
import Derived.OwnWalk
import Derived.KernelRfl
import Derived.Deep.RegionHeld3
namespace Go.Proofs.YtcmllaeihnmkkaaDoor
open Go Go.RowKit

theorem ownsRow_low {w : World} {B B' : Nat} {e : TypeId} {z n : Nat} {v : Value} {xs : List Value} (h : w.ownsRow B e z v n xs) (hb : B' ≤ B) : w.ownsRow B' e z v n xs := by
  refine ⟨h.1, ?_⟩
  rcases h.2 with h2 | ⟨g, cap, cur, h1, h2, h3⟩
  · exact .inl h2
  · exact .inr ⟨g, cap, cur, h1, by omega, h3⟩
theorem own_none {w : World} {B : Nat} {e : TypeId} {z n n' c : Nat} {ad : Option Addr} {xs : List Value} (h : w.ownsRow B e z (.slice ad n c) n' xs) (ha : ad = none) : n = 0 ∧ c = 0 := by
  subst ha
  rcases h.2 with ⟨h1, _⟩ | ⟨g, cap, cur, h1, _⟩
  · injection h1 with _ h2 h3
    exact ⟨h2, h3⟩
  · injection h1 with h2 _ _
    cases h2
theorem own_addr {w : World} {B : Nat} {e : TypeId} {z n n' c : Nat} {ad : Option Addr} {xs : List Value} (h : w.ownsRow B e z (.slice ad n c) n' xs) : ad = none ∨ ∃ g, ad = some ⟨g, 0, none⟩ := by
  rcases h.2 with ⟨h1, _⟩ | ⟨g, cap, cur, h1, _⟩
  · injection h1 with h2 _ _
    exact .inl h2
  · injection h1 with h2 _ _
    exact .inr ⟨g, h2⟩
theorem own_some {w : World} {B : Nat} {e : TypeId} {z n n' c : Nat} {ad : Option Addr} {xs : List Value} (h : w.ownsRow B e z (.slice ad n c) n' xs) (hn : 0 < n) : ∃ g, ad = some ⟨g, 0, none⟩ := by
  rcases h.2 with ⟨h1, _⟩ | ⟨g, cap, cur, h1, _⟩
  · injection h1 with _ h2 h3
    omega
  · injection h1 with h2 _ _
    exact ⟨g, h2⟩
section
variable {P : Program} {w : World}
theorem wp_append_opt {o : Oper} {a : Act} {K : Act → World → Prop} {Q : Exit → Act → World → Prop} (s x : Operand) (t : TypeId)
    (ho : o.op = .call { callee := .builtin .append, args := #[s, x], argTypes := #[t, t] })
    (base : Nat) (e : TypeId) (i : TypeInfo) (z : Value) (size bytes : Nat) (ht : P.underlying t = some (.slice e)) (hi : P.info? e = some i) (hz : i.zero = some z)
    (hsize : i.size = size) (hby : i.bytes = bytes) (hzs : z.cells.size = size) (hsz : 0 < size)
    (v : Value) (n : Nat) (xs : List Value) (hs : a.eval s = v) (hown : w.ownsRow base e size v n xs)
    (ad : Option Addr) (m c : Nat) (news : List Value) (hx : a.eval x = .slice ad m c) (hno : ad = none → m = 0 ∧ c = 0) (hl : news.length = m * size)
    (hnews : ∀ A, ad = some A → ∀ j u, news[j]? = some u → w.cell? (A.add j) = some u) (h1 : ∀ u ∈ news, u.oneCell' = true)
    (h63 : n + m ≤ maxLen) (hbytes : (n + m) * bytes ≤ 140737488355328) (hbase : base ≤ w.heap.size)
    (h : ∀ v' w', w'.ownsRow base e size v' (n + m) (xs ++ news) → w.grownBy w' v.ownBlock → K (a.put o.dst v') w') : o.wp P a w K Q := by
  cases ad with
  | some A => exact wp_append_own w s x t ho base e i z size bytes ht hi hz hsize hby hzs hsz v n xs hs hown A m c news hx hl (hnews A rfl) h1 h63 hbytes hbase fun v' w' h2 h3 _ => h v' w' h2 h3
  | none =>
    obtain ⟨rfl, rfl⟩ := hno rfl
    have hn0 : news = [] := List.eq_nil_of_length_eq_zero (by omega)
    subst hn0
    have hrun := run_append_owned_none (P := P) (w := w) base t o.type e i size ht hi v n xs hown
    unfold Oper.wp
    simp [execOp, ho, resolve, invoke, builtin, hs, hx, hrun, Result.andThen]
    exact h v w (by rw [List.append_nil]; exact hown) ⟨rfl, rfl, rfl, Nat.le_refl _, fun _ _ _ => rfl⟩

theorem wpList_append_opt {ops : Array Oper} {rest : List Oper} {o : Oper} {a : Act} {Q : Exit → Act → World → Prop} (hgd : o.guard = none) (s x : Operand) (t : TypeId)
    (ho : o.op = .call { callee := .builtin .append, args := #[s, x], argTypes := #[t, t] })
    (base : Nat) (e : TypeId) (i : TypeInfo) (z : Value) (size bytes : Nat) (ht : P.underlying t = some (.slice e)) (hi : P.info? e = some i) (hz : i.zero = some z)
    (hsize : i.size = size) (hby : i.bytes = bytes) (hzs : z.cells.size = size) (hsz : 0 < size)
    (v : Value) (n : Nat) (xs : List Value) (hs : a.eval s = v) (hown : w.ownsRow base e size v n xs)
    (ad : Option Addr) (m c : Nat) (news : List Value) (hx : a.eval x = .slice ad m c) (hno : ad = none → m = 0 ∧ c = 0) (hl : news.length = m * size)
    (hnews : ∀ A, ad = some A → ∀ j u, news[j]? = some u → w.cell? (A.add j) = some u) (h1 : ∀ u ∈ news, u.oneCell' = true)
    (h63 : n + m ≤ maxLen) (hbytes : (n + m) * bytes ≤ 140737488355328) (hbase : base ≤ w.heap.size)
    (h : ∀ v' w', w'.ownsRow base e size v' (n + m) (xs ++ news) → w.grownBy w' v.ownBlock → wpList P ops Q rest (a.put o.dst v') w') : wpList P ops Q (o :: rest) a w :=
  wpList_plain hgd fun _ hK => wp_append_opt s x t ho base e i z size bytes ht hi hz hsize hby hzs hsz v n xs hs hown ad m c news hx hno hl hnews h1 h63 hbytes hbase fun v' w' h2 h3 => hK _ _ (h v' w' h2 h3)

theorem step_append_opt {ops : Array Oper} {o : Oper} {a : Act} {K : Act → World → Prop} {Q : Exit → Act → World → Prop} {E : Prop} (hgd : o.guard = none) (s x : Operand) (t : TypeId)
    (ho : o.op = .call { callee := .builtin .append, args := #[s, x], argTypes := #[t, t] })
    (base : Nat) (e : TypeId) (i : TypeInfo) (z : Value) (size bytes : Nat) (ht : P.underlying t = some (.slice e)) (hi : P.info? e = some i) (hz : i.zero = some z)
    (hsize : i.size = size) (hby : i.bytes = bytes) (hzs : z.cells.size = size) (hsz : 0 < size)
    (v : Value) (n : Nat) (xs : List Value) (hs : a.eval s = v) (hown : w.ownsRow base e size v n xs)
    (ad : Option Addr) (m c : Nat) (news : List Value) (hx : a.eval x = .slice ad m c) (hno : ad = none → m = 0 ∧ c = 0) (hl : news.length = m * size)
    (hnews : ∀ A, ad = some A → ∀ j u, news[j]? = some u → w.cell? (A.add j) = some u) (h1 : ∀ u ∈ news, u.oneCell' = true)
    (h63 : n + m ≤ maxLen) (hbytes : (n + m) * bytes ≤ 140737488355328) (hbase : base ≤ w.heap.size)
    (h : ∀ v' w', w'.ownsRow base e size v' (n + m) (xs ++ news) → w.grownBy w' v.ownBlock → K (a.put o.dst v') w') :
    if Region.wanted o (yielded ops a.tmps) = true then Oper.wp P o a w K Q else E := by
  have hw : Region.wanted o (yielded ops a.tmps) = true := by simp [Region.wanted, hgd]
  rw [if_pos hw]
  exact wp_append_opt s x t ho base e i z size bytes ht hi hz hsize hby hzs hsz v n xs hs hown ad m c news hx hno hl hnews h1 h63 hbytes hbase h
end
end Go.Proofs.YtcmllaeihnmkkaaDoor
namespace Go.Proofs.YtcmllaeihnmkkaaDoor
open Go Go.RowKit

/-- A slice that reads as a row of numbers. -/
def IsRunes (w : World) (v : Value) (zs : List Int) : Prop :=
  ∃ A c, v = .slice A zs.length c ∧ (zs.length ≤ c ∧ (A = none → c = 0)) ∧ ∀ i n, zs[i]? = some n → isI32 n ∧ ∃ g off, A = some ⟨g, off, none⟩ ∧ w.cell? ⟨g, off + i, none⟩ = some (.int .i32 n)
theorem IsRunes.ext {w w' : World} {v : Value} {zs : List Int} (h : IsRunes w v zs) (hx : Ext w w') : IsRunes w' v zs := by
  obtain ⟨A, c, e, hc, h⟩ := h
  refine ⟨A, c, e, hc, fun i n hi => ?_⟩
  obtain ⟨h1, g, off, h2, h3⟩ := h i n hi
  exact ⟨h1, g, off, h2, hx.cell h3⟩
theorem IsRunes.all {w : World} {v : Value} {zs : List Int} (h : IsRunes w v zs) : ∀ n, n ∈ zs → isI32 n := by
  obtain ⟨A, c, e, hc, h⟩ := h
  intro n hn
  obtain ⟨i, hi⟩ := List.getElem?_of_mem hn
  exact (h i n hi).1
theorem add_off (g off j : Nat) : (⟨g, off, none⟩ : Addr).add j = ⟨g, off + j, none⟩ := by unfold Addr.add; split <;> simp_all
theorem IsRunes.cut {w : World} {A : Option Addr} {c : Nat} {zs : List Int} (h : IsRunes w (.slice A zs.length c) zs) (k : Nat) (hk : k ≤ zs.length) : IsRunes w (.slice A k c) (zs.take k) := by
  obtain ⟨A', c', e, hc, h⟩ := h
  injection e with e1 _ e3
  subst e1 e3
  have hl : (zs.take k).length = k := by rw [List.length_take]; omega
  refine ⟨A, c, by rw [hl], ⟨by have := hc.1; omega, hc.2⟩, fun i n hi => ?_⟩
  have hik : i < k := by
    have := (List.getElem?_eq_some_iff.1 hi).1
    omega
  rw [List.getElem?_take_of_lt hik] at hi
  exact h i n hi
theorem IsRunes.addr {w : World} {A : Option Addr} {n c : Nat} {zs : List Int} (h : IsRunes w (.slice A n c) zs) (hk : 0 < zs.length) : ∃ g off, A = some ⟨g, off, none⟩ := by
  obtain ⟨A', c', e, hc, h⟩ := h
  injection e with e1 _ e3
  subst e1 e3
  obtain ⟨_, g, off, e, _⟩ := h 0 _ (List.getElem?_eq_getElem hk)
  exact ⟨g, off, e⟩
theorem IsRunes.form {w : World} {v : Value} {zs : List Int} (h : IsRunes w v zs) : ∃ A c, v = .slice A zs.length c ∧ zs.length ≤ c ∧ (A = none → c = 0) := by
  obtain ⟨A, c, e, hc, _⟩ := h
  exact ⟨A, c, e, hc.1, hc.2⟩
theorem IsRunes.at {w : World} {A : Option Addr} {n c : Nat} {zs : List Int} (h : IsRunes w (.slice A n c) zs) {i : Nat} {m : Int} (hi : zs[i]? = some m) : isI32 m ∧ ∃ g off, A = some ⟨g, off, none⟩ ∧ w.cell? ⟨g, off + i, none⟩ = some (.int .i32 m) := by
  obtain ⟨A', c', e, _, h⟩ := h
  injection e with e1 _ _
  subst e1
  exact h i m hi
theorem IsRunes.at' {w : World} {g off n c : Nat} {zs : List Int} (h : IsRunes w (.slice (some ⟨g, off, none⟩) n c) zs) {i : Nat} {m : Int} (hi : zs[i]? = some m) : isI32 m ∧ w.cell? ⟨g, off + i, none⟩ = some (.int .i32 m) := by
  obtain ⟨h1, g', off', e, hc⟩ := h.at hi
  injection e with e
  injection e with e1 e2 _
  subst e1 e2
  exact ⟨h1, hc⟩
/-- The first so many of a row. -/
def fewL (zs : List Int) (k : Nat) : List Int := if k < zs.length then zs.take k else zs
theorem fewL_len (zs : List Int) (k : Nat) : (fewL zs k).length ≤ k := by
  unfold fewL; split
  · rw [List.length_take]; omega
  · omega
/-- A row of characters of the call's own. -/
def cellsR (l : List Int) : List Value := l.map fun n => .int .i32 n
theorem cellsR_append (a b : List Int) : cellsR (a ++ b) = cellsR a ++ cellsR b := List.map_append
theorem cellsR_len (l : List Int) : (cellsR l).length = l.length := List.length_map ..
theorem cellsR_one (l : List Int) : ∀ u ∈ cellsR l, u.oneCell' = true := by
  intro u hu
  obtain ⟨_, _, rfl⟩ := List.mem_map.1 hu
  rfl
def OwnR (w : World) (base : Nat) (v : Value) (l : List Int) : Prop := w.ownsRow base 21 1 v l.length (cellsR l)
theorem infoRune : (Tryd.prog.info? 21).map (fun i => (i.zero, i.size, i.bytes)) = some (some (.int .i32 0), 1, 4) := by kernel_rfl
theorem OwnR.nil (w : World) (base : Nat) : OwnR w base (.slice none 0 0) [] := World.ownsRow_nil _ _ _ _
theorem OwnR.more {w : World} {base : Nat} {v : Value} {l m : List Int} (h : w.ownsRow base 21 1 v (l.length + m.length) (cellsR l ++ cellsR m)) : OwnR w base v (l ++ m) := by
  unfold OwnR
  rw [List.length_append, cellsR_append]; exact h
theorem own_kept {w w' : World} {base n : Nat} {e : TypeId} {v : Value} {xs : List Value} (h : w.ownsRow base e 1 v n xs) (hk : ∀ g, base ≤ g → g < w.heap.size → w'.heap[g]? = w.heap[g]?) : w'.ownsRow base e 1 v n xs := by
  obtain ⟨h1, h2⟩ := h
  refine ⟨h1, ?_⟩
  rcases h2 with h2 | ⟨g, cap, cur, e1, e2, e3, e4⟩
  · exact .inl h2
  · refine .inr ⟨g, cap, cur, e1, e2, ?_, e4⟩
    have hlt : g < w.heap.size := by
      rcases Nat.lt_or_ge g w.heap.size with h | h
      · exact h
      · rw [Array.getElem?_eq_none h] at e3; cases e3
    rw [hk g e2 hlt, e3]
theorem OwnR.ext {w w' : World} {base : Nat} {v : Value} {l : List Int} (h : OwnR w base v l) (hx : Ext w w') : OwnR w' base v l := own_kept h fun g _ hg => hx.block g hg
theorem OwnR.only {w w' : World} {base d : Nat} {v : Value} {l : List Int} (h : OwnR w base v l) (hx : Only d w w') (hd : d < base) : OwnR w' base v l := own_kept h fun g hb hg => hx.block g (by omega) hg
theorem OwnR.low {w : World} {B B' : Nat} {v : Value} {l : List Int} (h : OwnR w B v l) (hb : B' ≤ B) : OwnR w B' v l := ownsRow_low h hb
theorem OwnR.isRunes {w : World} {base : Nat} {v : Value} {l : List Int} (h : OwnR w base v l) (ha : ∀ n, n ∈ l → isI32 n) : IsRunes w v l := by
  have hc := fun {g} => World.ownsRow.cells (g := g) h
  obtain ⟨_, h2⟩ := h
  rcases h2 with ⟨rfl, h0⟩ | ⟨g, cap, cur, rfl, _, _, hn, _⟩
  · obtain rfl := List.eq_nil_of_length_eq_zero h0
    exact ⟨none, 0, rfl, ⟨Nat.le_refl _, fun _ => rfl⟩, fun i n hi => by cases hi⟩
  · refine ⟨_, cap, rfl, ⟨hn, fun e => by cases e⟩, fun i n hi => ⟨ha n (List.mem_of_getElem? hi), g, 0, rfl, ?_⟩⟩
    have := hc (g := g) rfl i (.int .i32 n) (by rw [cellsR, List.getElem?_map, hi]; rfl)
    rw [add_off] at this
    exact this
theorem OwnR.form {w : World} {base : Nat} {v : Value} {l : List Int} (h : OwnR w base v l) : ∃ A c, v = .slice A l.length c ∧ (A = none → l.length = 0 ∧ c = 0) := by
  rcases h.2 with ⟨rfl, h0⟩ | ⟨g, cap, cur, rfl, _, _, hn, _⟩
  · exact ⟨none, 0, by rw [h0], fun _ => ⟨h0, rfl⟩⟩
  · exact ⟨_, cap, rfl, fun e => by cases e⟩
theorem OwnR.at {w : World} {base : Nat} {A : Option Addr} {n c : Nat} {l : List Int} (h : OwnR w base (.slice A n c) l) : ∀ B, A = some B → ∀ j u, (cellsR l)[j]? = some u → w.cell? (B.add j) = some u := by
  intro B hB j u hu
  subst hB
  rcases h.2 with ⟨e, _⟩ | ⟨g, cap, cur, e, _⟩
  · injection e with e1 _ _; cases e1
  · injection e with e1 _ _
    obtain rfl := Option.some.inj e1
    exact World.ownsRow.cells h rfl j u hu
theorem ext_grown {w0 w w' : World} {base n : Nat} {e : TypeId} {v : Value} {xs : List Value} (h : Ext w0 w) (ho : w.ownsRow base e 1 v n xs) (hg : w.grownBy w' v.ownBlock) (hb : w0.heap.size ≤ base) : Ext w0 w' :=
  Below.grown h hg h.size fun k hk => by have := (ho.lt k hk).1; omega
theorem only_grown {w0 w w' : World} {d base n : Nat} {e : TypeId} {v : Value} {xs : List Value} (h : Only d w0 w) (ho : w.ownsRow base e 1 v n xs) (hg : w.grownBy w' v.ownBlock) (hb : w0.heap.size ≤ base) : Only d w0 w' := by
  obtain ⟨g1, g2, g3, g4, g5⟩ := hg
  refine ⟨g1.trans h.os, g2.trans h.tape, g3.trans h.output, Nat.le_trans h.size g4, fun k hk hl => ?_⟩
  have hl' : k < w.heap.size := Nat.lt_of_lt_of_le hl h.size
  refine (g5 k hl' ?_).trans (h.block k hk hl)
  intro hq
  have := (ho.lt k hq.symm).1
  omega
end Go.Proofs.YtcmllaeihnmkkaaDoor
namespace Go.Proofs.YtcmllaeihnmkkaaDoor
open Go Go.RowKit

/-- A slice that reads as a row of cells. -/
def IsCells (w : World) (v : Value) (l : List Cel) : Prop :=
  ∃ A c, v = .slice A l.length c ∧ (l.length ≤ c ∧ (A = none → c = 0)) ∧ ∀ i x, l[i]? = some x → x.ok ∧ ∃ g off, A = some ⟨g, off, none⟩ ∧ CelAt w g (off + i * 4) x
theorem IsCells.ext {w w' : World} {v : Value} {l : List Cel} (h : IsCells w v l) (hx : Ext w w') : IsCells w' v l := by
  obtain ⟨A, c, e, hc, h⟩ := h
  refine ⟨A, c, e, hc, fun i n hi => ?_⟩
  obtain ⟨h1, g, off, h2, h3⟩ := h i n hi
  exact ⟨h1, g, off, h2, h3.ext hx⟩
theorem IsCells.all {w : World} {v : Value} {l : List Cel} (h : IsCells w v l) : ∀ x, x ∈ l → x.ok := by
  obtain ⟨A, c, e, hc, h⟩ := h
  intro n hn
  obtain ⟨i, hi⟩ := List.getElem?_of_mem hn
  exact (h i n hi).1
theorem IsCells.form {w : World} {v : Value} {l : List Cel} (h : IsCells w v l) : ∃ A c, v = .slice A l.length c ∧ l.length ≤ c ∧ (A = none → c = 0) := by
  obtain ⟨A, c, e, hc, _⟩ := h
  exact ⟨A, c, e, hc.1, hc.2⟩
theorem IsCells.at {w : World} {A : Option Addr} {n c : Nat} {l : List Cel} (h : IsCells w (.slice A n c) l) {i : Nat} {x : Cel} (hi : l[i]? = some x) : x.ok ∧ ∃ g off, A = some ⟨g, off, none⟩ ∧ CelAt w g (off + i * 4) x := by
  obtain ⟨A', c', e, _, h⟩ := h
  injection e with e1 _ _
  subst e1
  exact h i x hi
theorem IsCells.at' {w : World} {g off n c : Nat} {l : List Cel} (h : IsCells w (.slice (some ⟨g, off, none⟩) n c) l) {i : Nat} {x : Cel} (hi : l[i]? = some x) : x.ok ∧ CelAt w g (off + i * 4) x := by
  obtain ⟨h1, g', off', e, hc⟩ := h.at hi
  injection e with e
  injection e with e1 e2 _
  subst e1 e2
  exact ⟨h1, hc⟩
theorem IsCells.addr {w : World} {A : Option Addr} {n c : Nat} {l : List Cel} (h : IsCells w (.slice A n c) l) (hk : 0 < l.length) : ∃ g off, A = some ⟨g, off, none⟩ := by
  obtain ⟨_, g, off, e, _⟩ := h.at (List.getElem?_eq_getElem hk)
  exact ⟨g, off, e⟩
theorem IsCells.len {w : World} {A : Option Addr} {n c : Nat} {l : List Cel} (h : IsCells w (.slice A n c) l) : n = l.length ∧ n ≤ c := by
  obtain ⟨A', c', e, hc, _⟩ := h
  injection e with _ e2 e3
  subst e2 e3
  exact ⟨rfl, hc.1⟩
theorem IsCells.cut {w : World} {A : Option Addr} {n c : Nat} {l : List Cel} (h : IsCells w (.slice A n c) l) (k : Nat) (hk : k ≤ l.length) : IsCells w (.slice A k c) (l.take k) := by
  obtain ⟨A', c', e, hc, h⟩ := h
  injection e with e1 _ e3
  subst e1 e3
  have hl : (l.take k).length = k := by rw [List.length_take]; omega
  refine ⟨A, c, by rw [hl], ⟨by have := hc.1; omega, hc.2⟩, fun i x hi => ?_⟩
  have hik : i < k := by
    have := (List.getElem?_eq_some_iff.1 hi).1
    omega
  rw [List.getElem?_take_of_lt hik] at hi
  exact h i x hi
theorem IsCells.drop {w : World} {g off n c : Nat} {l : List Cel} (h : IsCells w (.slice (some ⟨g, off, none⟩) n c) l) (k : Nat) (hk : k ≤ l.length) : IsCells w (.slice (some ⟨g, off + k * 4, none⟩) (l.length - k) (c - k)) (l.drop k) := by
  have hn := h.len
  refine ⟨some ⟨g, off + k * 4, none⟩, c - k, by rw [List.length_drop], ⟨by rw [List.length_drop]; omega, fun e => by cases e⟩, fun i x hi => ?_⟩
  rw [List.getElem?_drop] at hi
  obtain ⟨h1, h2⟩ := h.at' hi
  refine ⟨h1, g, off + k * 4, rfl, ?_⟩
  rwa [show off + k * 4 + i * 4 = off + (k + i) * 4 by omega]
theorem IsCells.none {w : World} {n c : Nat} {l : List Cel} (h : IsCells w (.slice none n c) l) : l = [] ∧ n = 0 ∧ c = 0 := by
  obtain ⟨A', c', e, hc, _⟩ := h
  injection e with e1 e2 e3
  subst e1 e2 e3
  have h0 := hc.2 rfl
  subst h0
  have h1 : l.length = 0 := by have := hc.1; omega
  exact ⟨List.eq_nil_of_length_eq_zero h1, h1, rfl⟩
/-- The first so many of a row of cells. -/
def fewC (l : List Cel) (k : Nat) : List Cel := if k < l.length then l.take k else l
theorem fewC_len (l : List Cel) (k : Nat) : (fewC l k).length ≤ k := by
  unfold fewC; split
  · rw [List.length_take]; omega
  · omega
/-- A row of cells of the call's own. -/
def cellsC (l : List Cel) : List Value := l.flatMap Cel.cells
theorem cellsC_append (a b : List Cel) : cellsC (a ++ b) = cellsC a ++ cellsC b := by simp [cellsC]
theorem cellsC_nil : cellsC [] = [] := rfl
theorem cellsC_cons (c : Cel) (l : List Cel) : cellsC (c :: l) = c.cells ++ cellsC l := rfl
theorem cellsC_len : ∀ (l : List Cel), (cellsC l).length = l.length * 4
  | [] => rfl
  | c :: l => by rw [cellsC_cons, List.length_append, cellsC_len l]; simp [Cel.cells]; omega
theorem cellsC_one (l : List Cel) : ∀ u ∈ cellsC l, u.oneCell' = true := by
  intro u hu
  obtain ⟨c, _, hc⟩ := List.mem_flatMap.1 hu
  simp only [Cel.cells, List.mem_cons, List.not_mem_nil, or_false] at hc
  rcases hc with rfl | rfl | rfl | rfl <;> rfl
theorem cellsC_at : ∀ (l : List Cel) (i j : Nat) (c : Cel) (u : Value), l[i]? = some c → c.cells[j]? = some u → (cellsC l)[i * 4 + j]? = some u
  | [], _, _, _, _, h, _ => by cases h
  | d :: l, 0, j, c, u, h, hj => by
    obtain rfl : d = c := by simpa using h
    rw [cellsC_cons, Nat.zero_mul, Nat.zero_add, List.getElem?_append_left (List.getElem?_eq_some_iff.1 hj).1]
    exact hj
  | d :: l, i + 1, j, c, u, h, hj => by
    have hd : d.cells.length = 4 := rfl
    rw [cellsC_cons, List.getElem?_append_right (by omega), hd, show (i + 1) * 4 + j - 4 = i * 4 + j by omega]
    exact cellsC_at l i j c u h hj
def OwnC (w : World) (base : Nat) (v : Value) (l : List Cel) : Prop := w.ownsRow base 57 4 v l.length (cellsC l)
theorem infoCell : (Tryd.prog.info? 57).map (fun i => (i.zero, i.size, i.bytes)) = some (some (.agg #[.int .i32 0, .int .u8 0, .int .u8 0, .int .u8 0]), 4, 8) := by kernel_rfl
theorem OwnC.nil (w : World) (base : Nat) : OwnC w base (.slice none 0 0) [] := World.ownsRow_nil _ _ _ _
theorem OwnC.more {w : World} {base : Nat} {v : Value} {l m : List Cel} (h : w.ownsRow base 57 4 v (l.length + m.length) (cellsC l ++ cellsC m)) : OwnC w base v (l ++ m) := by
  unfold OwnC
  rw [List.length_append, cellsC_append]; exact h
theorem own_kept4 {w w' : World} {base n z : Nat} {e : TypeId} {v : Value} {xs : List Value} (h : w.ownsRow base e z v n xs) (hk : ∀ g, base ≤ g → g < w.heap.size → w'.heap[g]? = w.heap[g]?) : w'.ownsRow base e z v n xs := by
  obtain ⟨h1, h2⟩ := h
  refine ⟨h1, ?_⟩
  rcases h2 with h2 | ⟨g, cap, cur, e1, e2, e3, e4⟩
  · exact .inl h2
  · refine .inr ⟨g, cap, cur, e1, e2, ?_, e4⟩
    have hlt : g < w.heap.size := by
      rcases Nat.lt_or_ge g w.heap.size with h | h
      · exact h
      · rw [Array.getElem?_eq_none h] at e3; cases e3
    rw [hk g e2 hlt, e3]
theorem OwnC.ext {w w' : World} {base : Nat} {v : Value} {l : List Cel} (h : OwnC w base v l) (hx : Ext w w') : OwnC w' base v l := own_kept4 h fun g _ hg => hx.block g hg
theorem OwnC.low {w : World} {B B' : Nat} {v : Value} {l : List Cel} (h : OwnC w B v l) (hb : B' ≤ B) : OwnC w B' v l := ownsRow_low h hb
theorem OwnC.isCells {w : World} {base : Nat} {v : Value} {l : List Cel} (h : OwnC w base v l) (ha : ∀ x, x ∈ l → x.ok) : IsCells w v l := by
  have hc := fun {g} => World.ownsRow.cells (g := g) h
  obtain ⟨_, h2⟩ := h
  rcases h2 with ⟨rfl, h0⟩ | ⟨g, cap, cur, rfl, _, _, hn, _⟩
  · obtain rfl := List.eq_nil_of_length_eq_zero h0
    exact ⟨none, 0, rfl, ⟨Nat.le_refl _, fun _ => rfl⟩, fun i n hi => by cases hi⟩
  · refine ⟨_, cap, rfl, ⟨hn, fun e => by cases e⟩, fun i x hi => ⟨ha x (List.mem_of_getElem? hi), g, 0, rfl, fun j u hu => ?_⟩⟩
    have := hc (g := g) rfl (i * 4 + j) u (cellsC_at l i j x u hi hu)
    rw [add_off] at this
    rw [Nat.add_assoc]
    exact this
theorem OwnC.form {w : World} {base : Nat} {v : Value} {l : List Cel} (h : OwnC w base v l) : ∃ A c, v = .slice A l.length c ∧ (A = none → l.length = 0 ∧ c = 0) := by
  rcases h.2 with ⟨rfl, h0⟩ | ⟨g, cap, cur, rfl, _, _, hn, _⟩
  · exact ⟨none, 0, by rw [h0], fun _ => ⟨h0, rfl⟩⟩
  · exact ⟨_, cap, rfl, fun e => by cases e⟩
theorem IsCells.news {w : World} {A : Option Addr} {n c : Nat} {l : List Cel} (h : IsCells w (.slice A n c) l) : ∀ B, A = some B → ∀ j u, (cellsC l)[j]? = some u → w.cell? (B.add j) = some u := by
  intro B hB j u hu
  subst hB
  have hj : j < l.length * 4 := by rw [← cellsC_len]; exact (List.getElem?_eq_some_iff.1 hu).1
  have hi : l[j / 4]? = some (l[j / 4]'(by omega)) := List.getElem?_eq_getElem (by omega)
  obtain ⟨_, g, off, e, hat⟩ := h.at hi
  obtain rfl := Option.some.inj e
  rw [add_off]
  have hy4 : j % 4 < (l[j / 4]'(by omega)).cells.length := Nat.mod_lt _ (by decide)
  obtain ⟨y, hy⟩ : ∃ y, (l[j / 4]'(by omega)).cells[j % 4]? = some y := ⟨_, List.getElem?_eq_getElem hy4⟩
  have h2 := cellsC_at l (j / 4) (j % 4) _ y hi hy
  rw [show j / 4 * 4 + j % 4 = j by omega] at h2
  rw [h2] at hu
  injection hu with hu
  subst hu
  have := hat (j % 4) y hy
  rwa [show off + j / 4 * 4 + j % 4 = off + j by omega] at this
theorem ext_grown4 {w0 w w' : World} {base n z : Nat} {e : TypeId} {v : Value} {xs : List Value} (h : Ext w0 w) (ho : w.ownsRow base e z v n xs) (hg : w.grownBy w' v.ownBlock) (hb : w0.heap.size ≤ base) : Ext w0 w' :=
  Below.grown h hg h.size fun k hk => by have := (ho.lt k hk).1; omega
/-- A row that a call lays out itself. -/
theorem OwnC.new (w : World) (l : List Cel) (hm : l.length ≤ maxLen) : OwnC (w.alloc (.cells (cellsC l).toArray 57)) w.heap.size (.slice (some ⟨w.heap.size, 0, none⟩) l.length l.length) l := by
  refine ⟨cellsC_len l, .inr ⟨w.heap.size, l.length, (cellsC l).toArray, rfl, Nat.le_refl _, Go.heap_alloc_new _ _, Nat.le_refl _, hm, by simp [cellsC_len], ?_⟩⟩
  rw [← cellsC_len, List.take_length]
end Go.Proofs.YtcmllaeihnmkkaaDoor
namespace Go.Proofs.YtcmllaeihnmkkaaDoor
open Go Go.RowKit

theorem numF_range (s : ByteArray) (p : Nat) (c hi : Int) (h0 : 0 ≤ hi) : 0 ≤ (numF s p c 0 hi).1 ∧ (numF s p c 0 hi).1 ≤ hi := by
  unfold numF
  split
  · by_cases hc : (numAt s p 0 hi).2.2 = 0
    · have := numAt_range s p 0 hi hc
      exact ⟨this.1, this.2.1⟩
    · have h1 : (numAt s p 0 hi).1 = 0 := (numR_bad 0 hi _ hc).1
      show 0 ≤ (numAt s p 0 hi).1 ∧ (numAt s p 0 hi).1 ≤ hi
      rw [h1]; exact ⟨Int.le_refl _, h0⟩
  · exact ⟨Int.le_refl _, h0⟩
theorem Only.fresh {g j i : Nat} {a b : World} (h : Only g a b) (hj : a.heap.size ≤ j) (v : Value) : Only g a (b.setCell ⟨j, i, none⟩ v) :=
  ⟨h.os, h.tape, h.output, by simpa [World.setCell] using h.size, fun k hk hl => (Below.heap_setCell _ _ _ _ (show k ≠ j by omega)).trans (h.block k hk hl)⟩
theorem Blk.apart {w : World} {g j i : Nat} {t : TypeId} {cs : Array Value} {v : Value} (h : Blk w g t cs) (hj : g ≠ j) : Blk (w.setCell ⟨j, i, none⟩ v) g t cs :=
  (Below.heap_setCell _ _ _ _ hj).trans h
theorem results_tmp_cell {fn : Func} {t p : Tmp} (h : fn.results = #[.tmp t, .cell p 57]) (tmps : Array Value) (w : World) (g : Nat) (cs : Array Value) (hz : cs.size = 4)
    (hp : tmps.getD p undef = .pointer (some ⟨g, 0, none⟩)) (hg : w.heap[g]? = some (.cells cs 57 (0, 0))) : (results fn tmps).run Tryd.prog w = .ok (.tuple #[tmps.getD t undef, .agg cs]) w := by
  have hp' : tmps[p]?.getD undef = .pointer (some ⟨g, 0, none⟩) := by simpa using hp
  simp [results, h, hp', asAddr, run_loadVar_row w g 57 57 cs (0, 0) _ hg Tryd.underlying57 rfl (by rw [hz]; exact infoCel)]
set_option maxHeartbeats 4000000 in
set_option maxRecDepth 100000 in
theorem readRun_all (W : World) (g : Nat) (s : ByteArray) (p : Nat) (c : Int) (hs : s.size ≤ 1000000) (hp : p ≤ s.size) (hc : okC c) (h : RowAt W g s p c) (k r f b a : Int) (p1 p2 p3 p4 p5 : Nat) (c1 c2 c3 c4 c5 : Int)
    (e1 : numF s p c 0 4095 = (k, p1, c1)) (e2 : numF s p1 c1 0 1114111 = (r, p2, c2)) (e3 : numF s p2 c2 0 255 = (f, p3, c3)) (e4 : numF s p3 c3 0 255 = (b, p4, c4)) (e5 : numF s p4 c4 0 255 = (a, p5, c5)) :
    Calls Tryd.prog 54 #[.pointer (some ⟨g, 0, none⟩)] W fun e w' => e = .returned (.tuple #[.int .i64 (1 + k), .agg #[.int .i32 r, .int .u8 f, .int .u8 b, .int .u8 a]]) ∧ RowAt w' g s p5 c5 ∧ Only g W w' := by
  have i1 := numF_ok s p c 0 4095 hp hc
  have r1 := numF_range s p c 4095 (by omega)
  rw [e1] at i1 r1
  have i2 := numF_ok s p1 c1 0 1114111 i1.1 i1.2
  have r2 := numF_range s p1 c1 1114111 (by omega)
  rw [e2] at i2 r2
  have i3 := numF_ok s p2 c2 0 255 i2.1 i2.2
  have r3 := numF_range s p2 c2 255 (by omega)
  rw [e3] at i3 r3
  have i4 := numF_ok s p3 c3 0 255 i3.1 i3.2
  have r4 := numF_range s p3 c3 255 (by omega)
  rw [e4] at i4 r4
  have i5 := numF_ok s p4 c4 0 255 i4.1 i4.2
  have r5 := numF_range s p4 c4 255 (by omega)
  rw [e5] at i5 r5
  have C1 := fun W' (hW : RowAt W' g s p c) => Count_all W' g s p c 4095 hs hp hW
  have C2 := fun W' (hW : RowAt W' g s p1 c1) => Count_all W' g s p1 c1 1114111 hs i1.1 hW
  have C3 := fun W' (hW : RowAt W' g s p2 c2) => Count_all W' g s p2 c2 255 hs i2.1 hW
  have C4 := fun W' (hW : RowAt W' g s p3 c3) => Count_all W' g s p3 c3 255 hs i3.1 hW
  have C5 := fun W' (hW : RowAt W' g s p4 c4) => Count_all W' g s p4 c4 255 hs i4.1 hW
  rw [e1] at C1
  rw [e2] at C2
  rw [e3] at C3
  rw [e4] at C4
  rw [e5] at C5
  simp only at r1 r2 r3 r4 r5 C1 C2 C3 C4 C5
  have m2 : wrap32 r = r := by unfold wrap32; omega
  have m3 : f % 256 = f := by omega
  have m4 : b % 256 = b := by omega
  have m5 : a % 256 = a := by omega
  have hg := Blk.lt h
  have HC := Lib.hid (And.intro C1 (And.intro C2 (And.intro C3 (And.intro C4 C5)))); clear C1 C2 C3 C4 C5 i1 i2 i3 i4 i5 e1 e2 e3 e4 e5
  have HH := Lib.hid (And.intro h hg); clear h hg
  go_enter Tryd.func54, Tryd.ntmps54
  go_wp2_with fail
  refine (HC.out.1 _ (Blk.ext HH.out.1 ((Ext.refl W).alloc _))).mono ?_
  rintro e w1 ⟨rfl, h1, x1⟩
  have hgR : W.heap.size ≠ g := by have := HH.out.2; omega
  have b1 : Blk w1 W.heap.size 57 #[.int .i32 0, .int .u8 0, .int .u8 0, .int .u8 0] := Blk.only (Go.heap_alloc_new W _) x1 hgR
  have y1 := ((Only.refl g W).alloc (.cells #[.int .i32 0, .int .u8 0, .int .u8 0, .int .u8 0] 57)).trans x1
  have s1 : W.heap.size + 1 ≤ w1.heap.size := by have := x1.size; simpa using this
  generalize hR : W.heap.size = R at b1 hgR s1 ⊢
  have HR := Lib.hid hR; clear hR
  have H1 := Lib.hid (And.intro h1 (And.intro b1 (And.intro y1 s1))); clear h1 b1 y1 s1 x1
  go_wp2_with fail
  refine (HC.out.2.1 _ H1.out.1).mono ?_
  rintro e w2 ⟨rfl, h2, x2⟩
  have H2 := Lib.hid (And.intro h2 (And.intro (Blk.only H1.out.2.1 x2 hgR) (And.intro (H1.out.2.2.1.trans x2) (Nat.le_trans H1.out.2.2.2 x2.size)))); clear h2 x2
  go_wp2_with fail
  refine (HC.out.2.2.1 _ (Blk.ext H2.out.1 ((Ext.refl w2).alloc _))).mono ?_
  rintro e w3 ⟨rfl, h3, x3⟩
  have hgC : w2.heap.size ≠ g := by have := Blk.lt H2.out.1; omega
  have hCR : R ≠ w2.heap.size := by have := H2.out.2.2.2; omega
  have hWC : W.heap.size ≤ w2.heap.size := H2.out.2.2.1.size
  have b3 : Blk w3 w2.heap.size 57 #[.int .i32 r, .int .u8 0, .int .u8 0, .int .u8 0] := Blk.only (Go.heap_alloc_new w2 _) x3 hgC
  have H3 := Lib.hid (And.intro h3 (And.intro (Blk.only (Blk.ext H2.out.2.1 ((Ext.refl w2).alloc (.cells #[.int .i32 r, .int .u8 0, .int .u8 0, .int .u8 0] 57))) x3 hgR) ((H2.out.2.2.1.alloc _).trans x3)))
  clear h3 x3
  generalize w2.heap.size = C at b3 hgC hCR hWC ⊢
  have k3 : w3.cell? ⟨C, 1, none⟩ = some (.int .u8 0) := b3.cell 1
  have f3 : w3.frozen? ⟨C, 1, none⟩ = false := b3.frozen 1
  have b3' := b3.set_ 1 (.int .u8 f)
  have H3b := Lib.hid b3'; clear b3 b3'
  go_wp2_with fail
  clear k3 f3
  have y3 := H3.out.2.2.fresh (i := 1) hWC (.int .u8 f)
  have z3 := Blk.apart (i := 1) (v := .int .u8 f) H3.out.1 hgC.symm
  have q3 := Blk.apart (i := 1) (v := .int .u8 f) H3.out.2.1 hCR
  have H3c := Lib.hid (And.intro z3 (And.intro q3 (And.intro H3b.out y3))); clear y3 z3 q3
  generalize w3.setCell ⟨C, 1, none⟩ (.int .u8 f) = w4 at H3c ⊢
  refine (HC.out.2.2.2.1 _ H3c.out.1).mono ?_
  rintro e w5 ⟨rfl, h5, x5⟩
  have b5 : Blk w5 C 57 #[.int .i32 r, .int .u8 f, .int .u8 0, .int .u8 0] := Blk.only H3c.out.2.2.1 x5 hgC
  have k5 : w5.cell? ⟨C, 2, none⟩ = some (.int .u8 0) := b5.cell 2
  have f5 : w5.frozen? ⟨C, 2, none⟩ = false := b5.frozen 2
  have H5 := Lib.hid (And.intro h5 (And.intro (Blk.only H3c.out.2.1 x5 hgR) (And.intro (b5.set_ 2 (.int .u8 b)) (H3c.out.2.2.2.trans x5)))); clear h5 x5 b5
  go_wp2_with fail
  clear k5 f5
  have y5 := H5.out.2.2.2.fresh (i := 2) hWC (.int .u8 b)
  have z5 := Blk.apart (i := 2) (v := .int .u8 b) H5.out.1 hgC.symm
  have q5 := Blk.apart (i := 2) (v := .int .u8 b) H5.out.2.1 hCR
  have H5c := Lib.hid (And.intro z5 (And.intro q5 (And.intro H5.out.2.2.1 y5))); clear y5 z5 q5
  generalize w5.setCell ⟨C, 2, none⟩ (.int .u8 b) = w6 at H5c ⊢
  refine (HC.out.2.2.2.2 _ H5c.out.1).mono ?_
  rintro e w7 ⟨rfl, h7, x7⟩
  have b7 : Blk w7 C 57 #[.int .i32 r, .int .u8 f, .int .u8 b, .int .u8 0] := Blk.only H5c.out.2.2.1 x7 hgC
  have k7 : w7.cell? ⟨C, 3, none⟩ = some (.int .u8 0) := b7.cell 3
  have f7 : w7.frozen? ⟨C, 3, none⟩ = false := b7.frozen 3
  have H7 := Lib.hid (And.intro h7 (And.intro (Blk.only H5c.out.2.1 x7 hgR) (And.intro (b7.set_ 3 (.int .u8 a)) (H5c.out.2.2.2.trans x7)))); clear h7 x7 b7
  go_wp2_with fail
  clear k7 f7
  have y7 := H7.out.2.2.2.fresh (i := 3) hWC (.int .u8 a)
  have z7 := Blk.apart (i := 3) (v := .int .u8 a) H7.out.1 hgC.symm
  have q7 := Blk.apart (i := 3) (v := .int .u8 a) H7.out.2.1 hCR
  have H7c := Lib.hid (And.intro z7 (And.intro q7 (And.intro H7.out.2.2.1 y7))); clear y7 z7 q7
  generalize w7.setCell ⟨C, 3, none⟩ (.int .u8 a) = w8 at H7c ⊢
  have k0 : w8.cell? ⟨C, 0, none⟩ = some (.int .i32 r) := Blk.cell H7c.out.2.2.1 0
  have k1 : w8.cell? ⟨C, 1, none⟩ = some (.int .u8 f) := Blk.cell H7c.out.2.2.1 1
  have k2 : w8.cell? ⟨C, 2, none⟩ = some (.int .u8 b) := Blk.cell H7c.out.2.2.1 2
  have k3 : w8.cell? ⟨C, 3, none⟩ = some (.int .u8 a) := Blk.cell H7c.out.2.2.1 3
  have j0 : w8.cell? ⟨R, 0, none⟩ = some (.int .i32 0) := Blk.cell H7c.out.2.1 0
  have j1 : w8.cell? ⟨R, 1, none⟩ = some (.int .u8 0) := Blk.cell H7c.out.2.1 1
  have j2 : w8.cell? ⟨R, 2, none⟩ = some (.int .u8 0) := Blk.cell H7c.out.2.1 2
  have j3 : w8.cell? ⟨R, 3, none⟩ = some (.int .u8 0) := Blk.cell H7c.out.2.1 3
  have g0 : w8.frozen? ⟨R, 0, none⟩ = false := Blk.frozen H7c.out.2.1 0
  have g1 : w8.frozen? ⟨R, 1, none⟩ = false := Blk.frozen H7c.out.2.1 1
  have g2 : w8.frozen? ⟨R, 2, none⟩ = false := Blk.frozen H7c.out.2.1 2
  have g3 : w8.frozen? ⟨R, 3, none⟩ = false := Blk.frozen H7c.out.2.1 3
  go_wp2_with fail
  go_region_held3 (fun w' => w'.cell? ⟨C, 0, none⟩ = some (.int .i32 r) ∧ w'.cell? ⟨C, 1, none⟩ = some (.int .u8 f) ∧ w'.cell? ⟨C, 2, none⟩ = some (.int .u8 b) ∧ w'.cell? ⟨C, 3, none⟩ = some (.int .u8 a)) (go_keep) (fail)
  all_goals
    go_wp2_with fail
    have hb : Blk w8.drew R 57 #[.int .i32 0, .int .u8 0, .int .u8 0, .int .u8 0] := H7c.out.2.1
    have hb4 := (((hb.set_ 0 (.int .i32 r)).set_ 1 (.int .u8 f)).set_ 2 (.int .u8 b)).set_ 3 (.int .u8 a)
    have hrow : RowAt w8.drew g s p5 c5 := H7c.out.1
    have hr4 := Blk.apart (i := 3) (v := .int .u8 a) (Blk.apart (i := 2) (v := .int .u8 b) (Blk.apart (i := 1) (v := .int .u8 f) (Blk.apart (i := 0) (v := .int .i32 r) hrow hgR.symm) hgR.symm) hgR.symm) hgR.symm
    have hR0 : W.heap.size ≤ R := by rw [HR.out]; exact Nat.le_refl _
    have ho4 := (((H7c.out.2.2.2.drew.fresh (i := 0) hR0 (.int .i32 r)).fresh (i := 1) hR0 (.int .u8 f)).fresh (i := 2) hR0 (.int .u8 b)).fresh (i := 3) hR0 (.int .u8 a)
    refine bodyPost_ret (results_tmp_cell rfl _ _ R #[.int .i32 r, .int .u8 f, .int .u8 b, .int .u8 a] rfl rfl hb4) rfl ⟨rfl, hr4, ho4⟩
end Go.Proofs.YtcmllaeihnmkkaaDoor
