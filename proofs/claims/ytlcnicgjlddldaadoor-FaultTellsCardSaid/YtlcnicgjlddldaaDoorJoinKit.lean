/- What a row of a pile needs: an append of a part that may be nothing, and Join of a part that may be nothing. -/
import Derived.Test.YtlcnicgjlddldaaDoorPiles
import Derived.Test.YtlcnicgjlddldaaDoorJoinNil
import Derived.Deep.AppendLies
import Derived.Laws.AppendOwnNone
namespace Go.Proofs.YtlcnicgjlddldaaDoor
open Go Go.RowKit

theorem ext_grown {w w' : World} (hx : Ext w w') (row : Option Nat) : w.grownBy w' row := ⟨hx.os, hx.tape, hx.output, hx.size, fun k hk _ => hx.block k hk⟩
theorem ownsRow_low {w : World} {B B' : Nat} {e : TypeId} {z n : Nat} {v : Value} {xs : List Value} (h : w.ownsRow B e z v n xs) (hb : B' ≤ B) : w.ownsRow B' e z v n xs := by
  refine ⟨h.1, ?_⟩
  rcases h.2 with h2 | ⟨g, cap, cur, h1, h2, h3⟩
  · exact .inl h2
  · exact .inr ⟨g, cap, cur, h1, by omega, h3⟩
theorem own_none {w : World} {B : Nat} {e : TypeId} {z n n' c : Nat} {ad : Option Addr} {xs : List Value} (h : w.ownsRow B e z (.slice ad n c) n' xs) (ha : ad = none) : n = 0 ∧ c = 0 := by
  subst ha
  rcases h.2 with ⟨h1, _⟩ | ⟨g, cap, cur, h1, _⟩
  · injection h1 with _ h2 h3
    exact ⟨h2, h3⟩
  · injection h1 with h2 _ _
    cases h2
theorem own_addr {w : World} {B : Nat} {e : TypeId} {z n n' c : Nat} {ad : Option Addr} {xs : List Value} (h : w.ownsRow B e z (.slice ad n c) n' xs) : ad = none ∨ ∃ g, ad = some ⟨g, 0, none⟩ := by
  rcases h.2 with ⟨h1, _⟩ | ⟨g, cap, cur, h1, _⟩
  · injection h1 with h2 _ _
    exact .inl h2
  · injection h1 with h2 _ _
    exact .inr ⟨g, h2⟩
theorem own_some {w : World} {B : Nat} {e : TypeId} {z n n' c : Nat} {ad : Option Addr} {xs : List Value} (h : w.ownsRow B e z (.slice ad n c) n' xs) (hn : 0 < n) : ∃ g, ad = some ⟨g, 0, none⟩ := by
  rcases h.2 with ⟨h1, _⟩ | ⟨g, cap, cur, h1, _⟩
  · injection h1 with _ h2 h3
    omega
  · injection h1 with h2 _ _
    exact ⟨g, h2⟩
theorem own_cap {w : World} {B : Nat} {e : TypeId} {z n n' c : Nat} {ad : Option Addr} {xs : List Value} (h : w.ownsRow B e z (.slice ad n c) n' xs) : n' ≤ c := by
  rcases h.2 with ⟨h1, h2⟩ | ⟨g, cap, cur, h1, _, _, h4, _⟩
  · omega
  · injection h1 with _ _ h3
    omega
theorem own_take {w : World} {B : Nat} {e : TypeId} {z n n' c : Nat} {ad : Option Addr} {xs : List Value} (h : w.ownsRow B e z (.slice ad n c) n' xs) (l : Nat) :
    ∀ A, ad = some A → ∀ j u, (xs.take l)[j]? = some u → w.cell? (A.add j) = some u := by
  intro A hA j u hj
  subst hA
  have hg : ∃ g, A = ⟨g, 0, none⟩ := by
    rcases h.2 with ⟨h1, _⟩ | ⟨g, cap, cur, h1, _⟩
    · cases h1
    · injection h1 with h2 _ _
      injection h2 with h2
      exact ⟨g, h2⟩
  obtain ⟨g, rfl⟩ := hg
  have hjl : j < l := by
    have h1 := (List.getElem?_eq_some_iff.1 hj).1
    rw [List.length_take] at h1
    omega
  rw [List.getElem?_take, if_pos hjl] at hj
  exact World.ownsRow.cells h (g := g) rfl j u hj

theorem ext_app {w0 wx w1 : World} {v : Value} (hx : Ext w0 wx) (hg : wx.grownBy w1 v.ownBlock) (hb : ∀ k, v.ownBlock = some k → w0.heap.size ≤ k) : Ext w0 w1 := Below.grown hx hg hx.size hb
theorem lit_ge {H B : Nat} (h : H ≤ B) : ∀ j, (Value.slice (some ⟨B, 0, none⟩) 0 0).ownBlock = some j → H ≤ j := by
  intro j ej
  have e : B = j := by simpa [Value.ownBlock] using ej
  omega
theorem own_new {H g n n' c c' : Nat} {ad : Option Addr} {b : Value} (hg : H ≤ g) {j : Nat} (h : Own (.slice (some ⟨g, 0, none⟩) n c) b j) : Own (.slice ad n' c') b j ∨ H ≤ j := by
  rcases h with h | h
  · have e : g = j := by simpa [Value.ownBlock] using h
    exact .inr (by omega)
  · exact .inl (.inr h)
theorem news_kept {W w1 : World} {row : Option Nat} (hg : W.grownBy w1 row) {B : Nat} (l : List Value) (T : TypeId) (h : W.heap[B]? = some (.cells l.toArray T (0, 0))) (hne : some B ≠ row) :
    ∀ j u, l[j]? = some u → w1.cell? ((⟨B, 0, none⟩ : Addr).add j) = some u := by
  intro j u hj
  have hlt : B < W.heap.size := (Array.getElem?_eq_some_iff.1 h).1
  have h1 : w1.heap[B]? = some (.cells l.toArray T (0, 0)) := by rw [hg.block B hlt hne]; exact h
  exact World.news_of_block h1 j u (by simpa using hj)
/-- What an append of a part of the document's pile wants of the world that it is made in. -/
structure AtApp (w wa W : World) (B0 n : Nat) (b : Value) (cs : List Value) : Prop where
  ext : Ext wa W
  row : W.ownsRow wa.heap.size 37 5 (.slice (some ⟨B0, 0, none⟩) 0 0) 0 []
  ge : wa.heap.size ≤ B0
  own : W.ownsRow w.heap.size 37 5 b n cs
theorem AtApp.one {w wa : World} {n : Nat} {b : Value} {cs : List Value} (h : wa.ownsRow w.heap.size 37 5 b n cs) : AtApp w wa ((wa.alloc (.cells #[] 37)).drew) wa.heap.size n b cs :=
  ⟨((Ext.refl wa).alloc _).drew, World.ownsRow.drew (World.ownsRow_lit wa #[] 0 (Nat.le_refl _) (by decide) rfl), Nat.le_refl _, World.ownsRow.drew (h.alloc _)⟩
theorem AtApp.two {w wa : World} {n : Nat} {b : Value} {cs : List Value} (F : Obj) (h : wa.ownsRow w.heap.size 37 5 b n cs) : AtApp w wa (((wa.alloc (.cells #[] 37)).alloc F).drew) wa.heap.size n b cs :=
  ⟨(((Ext.refl wa).alloc _).alloc _).drew, World.ownsRow.drew ((World.ownsRow_lit wa #[] 0 (Nat.le_refl _) (by decide) rfl).alloc _), Nat.le_refl _, World.ownsRow.drew ((h.alloc _).alloc _)⟩
theorem AtApp.three {w wa : World} {n : Nat} {b : Value} {cs : List Value} (F : Obj) (h : wa.ownsRow w.heap.size 37 5 b n cs) : AtApp w wa (((wa.alloc F).alloc (.cells #[] 37)).drew) (wa.heap.size + 1) n b cs :=
  ⟨(((Ext.refl wa).alloc _).alloc _).drew, by
    have h1 := World.ownsRow_lit (base := wa.heap.size) (e := 37) (size := 5) (wa.alloc F) #[] 0 (by simp) (by decide) rfl
    rw [show (wa.alloc F).heap.size = wa.heap.size + 1 from by simp] at h1
    exact World.ownsRow.drew h1, by omega, World.ownsRow.drew ((h.alloc _).alloc _)⟩
theorem single_two (wa : World) (F : Obj) : (((wa.alloc (.cells #[] 37)).alloc F).drew).heap[wa.heap.size + 1]? = some F := by
  have h := Go.heap_alloc_new (wa.alloc (.cells #[] 37)) F
  rw [show (wa.alloc (.cells #[] 37)).heap.size = wa.heap.size + 1 from by simp] at h
  exact h
theorem single_three (wa : World) (F : Obj) : (((wa.alloc F).alloc (.cells #[] 37)).drew).heap[wa.heap.size]? = some F :=
  heap_ext' ((Ext.refl (wa.alloc F)).alloc (.cells #[] 37)).drew (Go.heap_alloc_new wa F)
theorem RepOS.one {S : Nat → Prop} {w : World} {t : Option Tr} {v : Value} (h : RepOS S w t v) : v.oneCell' = true := by
  cases t with
  | none =>
    have e : v = .nilIface := h
    rw [e]; simp [Value.oneCell']
  | some t =>
    obtain ⟨u, x, rfl⟩ := RepS.form (t := t) h
    simp [Value.oneCell']
theorem RepsA.ones {S : Nat → Prop} {w : World} {us : List (Option Tr)} {vs : List Value} (h : RepsA S w us vs) (hl : vs.length = us.length) : ∀ u ∈ vs, u.oneCell' = true := by
  intro u hu
  obtain ⟨j, hj⟩ := List.getElem?_of_mem hu
  have hjl := (List.getElem?_eq_some_iff.1 hj).1
  obtain ⟨v, h1, h2⟩ := h j us[j] (List.getElem?_eq_getElem (by omega))
  rw [hj] at h1
  injection h1 with h1
  rw [h1]
  exact h2.one
theorem RepsB.ones {S : Nat → Prop} {w : World} {us : List (Option Tr)} {cs : List Value} (h : RepsB S w us cs) (hl : cs.length = us.length * 5) : ∀ u ∈ cs, u.oneCell' = true := by
  intro u hu
  obtain ⟨j, hj⟩ := List.getElem?_of_mem hu
  have hjl := (List.getElem?_eq_some_iff.1 hj).1
  obtain ⟨ds, h1, h2, h3⟩ := h (j / 5) us[j / 5] (List.getElem?_eq_getElem (by omega))
  obtain ⟨k, c, p, z, a, n, cp, rfl, _⟩ := RefO.form h3
  have hq : j % 5 < 5 := Nat.mod_lt _ (by decide)
  have h4 := h2 (j % 5) hq
  rw [show j / 5 * 5 + j % 5 = j from by omega, hj] at h4
  generalize j % 5 = q at h4 hq
  rcases (show q = 0 ∨ q = 1 ∨ q = 2 ∨ q = 3 ∨ q = 4 from by omega) with rfl | rfl | rfl | rfl | rfl
  all_goals
    injection h4 with h4
    rw [h4]
    rfl

section
variable {P : Program} {w : World}
theorem wp_append_opt {o : Oper} {a : Act} {K : Act → World → Prop} {Q : Exit → Act → World → Prop} (s x : Operand) (t : TypeId)
    (ho : o.op = .call { callee := .builtin .append, args := #[s, x], argTypes := #[t, t] })
    (base : Nat) (e : TypeId) (i : TypeInfo) (z : Value) (size bytes : Nat) (ht : P.underlying t = some (.slice e)) (hi : P.info? e = some i) (hz : i.zero = some z)
    (hsize : i.size = size) (hby : i.bytes = bytes) (hzs : z.cells.size = size) (hsz : 0 < size)
    (v : Value) (n : Nat) (xs : List Value) (hs : a.eval s = v) (hown : w.ownsRow base e size v n xs)
    (ad : Option Addr) (m c : Nat) (news : List Value) (hx : a.eval x = .slice ad m c) (hno : ad = none → m = 0 ∧ c = 0) (hl : news.length = m * size)
    (hnews : ∀ A, ad = some A → ∀ j u, news[j]? = some u → w.cell? (A.add j) = some u) (h1 : ∀ u ∈ news, u.oneCell' = true)
    (h63 : n + m ≤ maxLen) (hbytes : (n + m) * bytes ≤ 140737488355328) (hbase : base ≤ w.heap.size)
    (h : ∀ v' w', w'.ownsRow base e size v' (n + m) (xs ++ news) → w.grownBy w' v.ownBlock → K (a.put o.dst v') w') : o.wp P a w K Q := by
  cases ad with
  | some A => exact wp_append_own w s x t ho base e i z size bytes ht hi hz hsize hby hzs hsz v n xs hs hown A m c news hx hl (hnews A rfl) h1 h63 hbytes hbase fun v' w' h2 h3 _ => h v' w' h2 h3
  | none =>
    obtain ⟨rfl, rfl⟩ := hno rfl
    have hn0 : news = [] := List.eq_nil_of_length_eq_zero (by omega)
    subst hn0
    have hrun := run_append_owned_none (P := P) (w := w) base t o.type e i size ht hi v n xs hown
    unfold Oper.wp
    simp [execOp, ho, resolve, invoke, builtin, hs, hx, hrun, Result.andThen]
    exact h v w (by rw [List.append_nil]; exact hown) ⟨rfl, rfl, rfl, Nat.le_refl _, fun _ _ _ => rfl⟩

theorem wpList_append_opt {ops : Array Oper} {rest : List Oper} {o : Oper} {a : Act} {Q : Exit → Act → World → Prop} (hgd : o.guard = none) (s x : Operand) (t : TypeId)
    (ho : o.op = .call { callee := .builtin .append, args := #[s, x], argTypes := #[t, t] })
    (base : Nat) (e : TypeId) (i : TypeInfo) (z : Value) (size bytes : Nat) (ht : P.underlying t = some (.slice e)) (hi : P.info? e = some i) (hz : i.zero = some z)
    (hsize : i.size = size) (hby : i.bytes = bytes) (hzs : z.cells.size = size) (hsz : 0 < size)
    (v : Value) (n : Nat) (xs : List Value) (hs : a.eval s = v) (hown : w.ownsRow base e size v n xs)
    (ad : Option Addr) (m c : Nat) (news : List Value) (hx : a.eval x = .slice ad m c) (hno : ad = none → m = 0 ∧ c = 0) (hl : news.length = m * size)
    (hnews : ∀ A, ad = some A → ∀ j u, news[j]? = some u → w.cell? (A.add j) = some u) (h1 : ∀ u ∈ news, u.oneCell' = true)
    (h63 : n + m ≤ maxLen) (hbytes : (n + m) * bytes ≤ 140737488355328) (hbase : base ≤ w.heap.size)
    (h : ∀ v' w', w'.ownsRow base e size v' (n + m) (xs ++ news) → w.grownBy w' v.ownBlock → wpList P ops Q rest (a.put o.dst v') w') : wpList P ops Q (o :: rest) a w :=
  wpList_plain hgd fun _ hK => wp_append_opt s x t ho base e i z size bytes ht hi hz hsize hby hzs hsz v n xs hs hown ad m c news hx hno hl hnews h1 h63 hbytes hbase fun v' w' h2 h3 => hK _ _ (h v' w' h2 h3)

theorem step_append_opt {ops : Array Oper} {o : Oper} {a : Act} {K : Act → World → Prop} {Q : Exit → Act → World → Prop} {E : Prop} (hgd : o.guard = none) (s x : Operand) (t : TypeId)
    (ho : o.op = .call { callee := .builtin .append, args := #[s, x], argTypes := #[t, t] })
    (base : Nat) (e : TypeId) (i : TypeInfo) (z : Value) (size bytes : Nat) (ht : P.underlying t = some (.slice e)) (hi : P.info? e = some i) (hz : i.zero = some z)
    (hsize : i.size = size) (hby : i.bytes = bytes) (hzs : z.cells.size = size) (hsz : 0 < size)
    (v : Value) (n : Nat) (xs : List Value) (hs : a.eval s = v) (hown : w.ownsRow base e size v n xs)
    (ad : Option Addr) (m c : Nat) (news : List Value) (hx : a.eval x = .slice ad m c) (hno : ad = none → m = 0 ∧ c = 0) (hl : news.length = m * size)
    (hnews : ∀ A, ad = some A → ∀ j u, news[j]? = some u → w.cell? (A.add j) = some u) (h1 : ∀ u ∈ news, u.oneCell' = true)
    (h63 : n + m ≤ maxLen) (hbytes : (n + m) * bytes ≤ 140737488355328) (hbase : base ≤ w.heap.size)
    (h : ∀ v' w', w'.ownsRow base e size v' (n + m) (xs ++ news) → w.grownBy w' v.ownBlock → K (a.put o.dst v') w') :
    if Region.wanted o (yielded ops a.tmps) = true then Oper.wp P o a w K Q else E := by
  have hw : Region.wanted o (yielded ops a.tmps) = true := by simp [Region.wanted, hgd]
  rw [if_pos hw]
  exact wp_append_opt s x t ho base e i z size bytes ht hi hz hsize hby hzs hsz v n xs hs hown ad m c news hx hno hl hnews h1 h63 hbytes hbase h
end

theorem Join_mid (S : Nat → Prop) (us : List (Option Tr)) (ad : Option Addr) (n cap : Nat) (w : World) (hS : ∀ k, S k → k < w.heap.size) (hn : n = us.length) (hl : us.length ≤ 1000000)
    (h : 0 < n → ∃ g off, ad = some ⟨g, off, none⟩ ∧ ErrsS S w g off us) :
    Calls Tryd.prog 25 #[.slice ad n cap] w fun e w' => ∃ v, e = .returned v ∧ RepOS S w' (joined us) v ∧ Ext w w' := by
  subst hn
  rcases Nat.eq_zero_or_pos us.length with h0 | hp
  · have hu : us = [] := List.eq_nil_of_length_eq_zero h0
    subst hu
    refine (Join_none ad cap w).mono ?_
    rintro e w' ⟨rfl, hx⟩
    exact ⟨_, rfl, rfl, hx⟩
  · obtain ⟨g, off, rfl, he⟩ := h hp
    exact Join_someS S us g off cap w hS he hl
theorem refJoin_mid (S : Nat → Prop) (us : List (Option Tr)) (ad : Option Addr) (n cap : Nat) (w : World) (hS : ∀ k, S k → k < w.heap.size) (hn : n = us.length) (hl : us.length ≤ 1000000)
    (h : 0 < n → ∃ g off, ad = some ⟨g, off, none⟩ ∧ RefErrs S w g off us) :
    Calls Tryd.prog 36 #[.slice ad n cap] w fun e w' => ∃ cs, e = .returned (.agg cs.toArray) ∧ RefO S w' (joined us) cs ∧ Ext w w' := by
  subst hn
  rcases Nat.eq_zero_or_pos us.length with h0 | hp
  · have hu : us = [] := List.eq_nil_of_length_eq_zero h0
    subst hu
    exact refJoin_none S ad cap w
  · obtain ⟨g, off, rfl, he⟩ := h hp
    exact refJoin_some S us g off cap w hS he hl
end Go.Proofs.YtlcnicgjlddldaaDoor
