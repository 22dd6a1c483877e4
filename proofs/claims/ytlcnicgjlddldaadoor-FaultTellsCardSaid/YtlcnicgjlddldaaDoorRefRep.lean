/- The document's own faults (lyceumref01.Err, five cells) as trees; and faults in memory that keep clear of some blocks. -/
import Derived.Test.YtlcnicgjlddldaaDoorJoinRep
namespace Go.Proofs.YtlcnicgjlddldaaDoor
open Go Go.RowKit

/-- What was there stands, but for some blocks. -/
structure ExtBut (S : Nat → Prop) (w w' : World) : Prop where
  os : w'.os = w.os
  tape : w'.tape = w.tape
  output : w'.output = w.output
  size : w.heap.size ≤ w'.heap.size
  block : ∀ k, k < w.heap.size → ¬ S k → w'.heap[k]? = w.heap[k]?
theorem ExtBut.cell {S : Nat → Prop} {w w' : World} (h : ExtBut S w w') {p : Addr} {v : Value} (hs : ¬ S p.block) (hc : w.cell? p = some v) : w'.cell? p = some v := by
  have hl := lt_of_cell hc
  unfold World.cell? at hc ⊢
  rw [h.block _ hl hs]
  exact hc
theorem Ext.but {w w' : World} (h : Ext w w') (S : Nat → Prop) : ExtBut S w w' := ⟨Below.os h, Below.tape h, Below.output h, h.size, fun k hk _ => Below.block h k hk⟩
theorem ExtBut.setCell {S : Nat → Prop} (w : World) (p : Addr) (v : Value) (hp : S p.block) : ExtBut S w (w.setCell p v) :=
  ⟨rfl, rfl, rfl, by simp [World.setCell], fun k _ hs => Below.heap_setCell _ _ _ _ (fun e => hs (e ▸ hp))⟩
theorem ExtBut.trans {S : Nat → Prop} {a b c : World} (h : ExtBut S a b) (k : ExtBut S b c) : ExtBut S a c :=
  ⟨k.os.trans h.os, k.tape.trans h.tape, k.output.trans h.output, Nat.le_trans h.size k.size, fun i hi hs => (k.block i (by have := h.size; omega) hs).trans (h.block i hi hs)⟩

mutual
/-- As Rep; its rows lie in no block of S. -/
def RepS (S : Nat → Prop) (w : World) : Tr → Value → Prop
  | .code c, v => v = .iface 35 (.int .i64 c) ∧ c ≠ 0 ∧ -9223372036854775808 ≤ c ∧ c ≤ 9223372036854775807
  | .place p t, v => ∃ u x, v = .iface 75 (.agg #[.iface u x, .int .i64 p, .bool false]) ∧ (-9223372036854775808 ≤ p ∧ p ≤ 9223372036854775807) ∧ RepS S w t (.iface u x)
  | .word s t, v => ∃ u x, v = .iface 82 (.agg #[.iface u x, .string s, .bool false]) ∧ RepS S w t (.iface u x)
  | .row ts, v => ∃ r b off cap, v = .iface 93 (.pointer (some ⟨r, 0, none⟩)) ∧ w.cell? ⟨r, 0, none⟩ = some (.slice (some ⟨b, off, none⟩) ts.length cap) ∧ w.cell? ⟨r, 1, none⟩ = some (.bool false) ∧ 2 ≤ ts.length ∧ ts.length ≤ 1000000 ∧ ts.length ≤ cap ∧ ¬ S r ∧ ¬ S b ∧ RepAllS S w b off ts
def RepAllS (S : Nat → Prop) (w : World) (b : Nat) : Nat → List Tr → Prop
  | _, [] => True
  | off, t :: ts => (∃ u x, w.cell? ⟨b, off, none⟩ = some (.iface u x) ∧ RepS S w t (.iface u x)) ∧ RepAllS S w b (off + 1) ts
end
mutual
theorem RepS.rep {S : Nat → Prop} {w : World} : ∀ {t : Tr} {v : Value}, RepS S w t v → Rep w t v
  | .code _, _, h => h
  | .place _ _, _, ⟨u, x, e, hp, h⟩ => ⟨u, x, e, hp, RepS.rep h⟩
  | .word _ _, _, ⟨u, x, e, h⟩ => ⟨u, x, e, RepS.rep h⟩
  | .row _, _, ⟨r, b, off, cap, e, h0, h1, h2, h3, h4, _, _, h⟩ => ⟨r, b, off, cap, e, h0, h1, h2, h3, h4, RepAllS.rep h⟩
theorem RepAllS.rep {S : Nat → Prop} {w : World} {b : Nat} : ∀ {off : Nat} {ts : List Tr}, RepAllS S w b off ts → RepAll w b off ts
  | _, [], _ => trivial
  | _, _ :: _, ⟨⟨u, x, hc, h⟩, hr⟩ => ⟨⟨u, x, hc, RepS.rep h⟩, RepAllS.rep hr⟩
end
mutual
theorem RepS.kept {S T : Nat → Prop} {w w' : World} (hx : ExtBut S w w') (hT : ∀ k, T k → S k ∨ w.heap.size ≤ k) : ∀ {t : Tr} {v : Value}, RepS S w t v → RepS T w' t v
  | .code _, _, h => h
  | .place _ _, _, ⟨u, x, e, hp, h⟩ => ⟨u, x, e, hp, RepS.kept hx hT h⟩
  | .word _ _, _, ⟨u, x, e, h⟩ => ⟨u, x, e, RepS.kept hx hT h⟩
  | .row ts, _, ⟨r, b, off, cap, e, h0, h1, h2, h3, h4, h5, h6, h⟩ => by
    refine ⟨r, b, off, cap, e, hx.cell h5 h0, hx.cell h5 h1, h2, h3, h4, fun ht => ?_, fun ht => ?_, RepAllS.kept hx hT h6 h⟩
    · rcases hT r ht with hs | hs
      · exact h5 hs
      · have := lt_of_cell h0; simp at this; omega
    · rcases hT b ht with hs | hs
      · exact h6 hs
      · cases ts with
        | nil => simp at h2
        | cons t ts =>
          obtain ⟨⟨u, x, hc, _⟩, _⟩ := h
          have := lt_of_cell hc; simp at this; omega
theorem RepAllS.kept {S T : Nat → Prop} {w w' : World} (hx : ExtBut S w w') (hT : ∀ k, T k → S k ∨ w.heap.size ≤ k) {b : Nat} (hb : ¬ S b) : ∀ {off : Nat} {ts : List Tr}, RepAllS S w b off ts → RepAllS T w' b off ts
  | _, [], _ => trivial
  | _, _ :: _, ⟨⟨u, x, hc, h⟩, hr⟩ => ⟨⟨u, x, hx.cell hb hc, RepS.kept hx hT h⟩, RepAllS.kept hx hT hb hr⟩
end
theorem RepS.ext {S : Nat → Prop} {w w' : World} (hx : Ext w w') {t : Tr} {v : Value} (h : RepS S w t v) : RepS S w' t v := RepS.kept (hx.but S) (fun _ h => .inl h) h
/-- Nothing, or a fault, clear of S. -/
def RepOS (S : Nat → Prop) (w : World) : Option Tr → Value → Prop
  | none, v => v = .nilIface
  | some t, v => RepS S w t v
theorem RepOS.rep {S : Nat → Prop} {w : World} {t : Option Tr} {v : Value} (h : RepOS S w t v) : RepO w t v := by
  cases t with
  | none => exact h
  | some t => exact RepS.rep h
theorem RepOS.kept {S T : Nat → Prop} {w w' : World} (hx : ExtBut S w w') (hT : ∀ k, T k → S k ∨ w.heap.size ≤ k) {t : Option Tr} {v : Value} (h : RepOS S w t v) : RepOS T w' t v := by
  cases t with
  | none => exact h
  | some t => exact RepS.kept hx hT h

/-! The document's faults. -/
/-- Cells in a row of a block. -/
def CellsAt (w : World) (g off : Nat) (ds : List Value) : Prop := ∀ (j : Nat) u, ds[j]? = some u → w.cell? ⟨g, off + j, none⟩ = some u
theorem CellsAt.kept {S : Nat → Prop} {w w' : World} (hx : ExtBut S w w') {g off : Nat} {ds : List Value} (hg : ¬ S g) (h : CellsAt w g off ds) : CellsAt w' g off ds := fun j u hj => hx.cell hg (h j u hj)
def refNone : List Value := [.int .i64 0, .int .i64 0, .int .i64 0, .string ⟨#[]⟩, .slice none 0 0]
mutual
def RefT (S : Nat → Prop) (w : World) : Tr → List Value → Prop
  | .code c, cs => cs = [.int .i64 1, .int .i64 c, .int .i64 0, .string ⟨#[]⟩, .slice none 0 0] ∧ c ≠ 0
  | .place p t, cs => ∃ g cap ds, cs = [.int .i64 2, .int .i64 0, .int .i64 p, .string ⟨#[]⟩, .slice (some ⟨g, 0, none⟩) 1 cap] ∧ ¬ S g ∧ ds.length = 5 ∧ CellsAt w g 0 ds ∧ RefT S w t ds
  | .word s t, cs => ∃ g cap ds, cs = [.int .i64 3, .int .i64 0, .int .i64 0, .string s, .slice (some ⟨g, 0, none⟩) 1 cap] ∧ ¬ S g ∧ ds.length = 5 ∧ CellsAt w g 0 ds ∧ RefT S w t ds
  | .row ts, cs => ∃ g cap, cs = [.int .i64 4, .int .i64 0, .int .i64 0, .string ⟨#[]⟩, .slice (some ⟨g, 0, none⟩) ts.length cap] ∧ ¬ S g ∧ 2 ≤ ts.length ∧ ts.length ≤ 1000000 ∧ RefAll S w g 0 ts
def RefAll (S : Nat → Prop) (w : World) (g : Nat) : Nat → List Tr → Prop
  | _, [] => True
  | off, t :: ts => (∃ ds, ds.length = 5 ∧ CellsAt w g off ds ∧ RefT S w t ds) ∧ RefAll S w g (off + 5) ts
end
theorem lt_of_cells {w : World} {g off : Nat} {ds : List Value} (h : CellsAt w g off ds) (hl : ds.length = 5) : g < w.heap.size := by
  have h0 : ds[0]? = some ds[0] := List.getElem?_eq_getElem (by omega)
  exact lt_of_cell (h 0 _ h0)
mutual
theorem RefT.kept {S T : Nat → Prop} {w w' : World} (hx : ExtBut S w w') (hT : ∀ k, T k → S k ∨ w.heap.size ≤ k) : ∀ {t : Tr} {cs : List Value}, RefT S w t cs → RefT T w' t cs
  | .code _, _, h => h
  | .place _ _, _, ⟨g, cap, ds, e, hg, hl, hc, h⟩ => ⟨g, cap, ds, e, fun ht => by
      rcases hT g ht with hs | hs
      · exact hg hs
      · have := lt_of_cells hc hl; omega, hl, hc.kept hx hg, RefT.kept hx hT h⟩
  | .word _ _, _, ⟨g, cap, ds, e, hg, hl, hc, h⟩ => ⟨g, cap, ds, e, fun ht => by
      rcases hT g ht with hs | hs
      · exact hg hs
      · have := lt_of_cells hc hl; omega, hl, hc.kept hx hg, RefT.kept hx hT h⟩
  | .row ts, _, ⟨g, cap, e, hg, h2, h3, h⟩ => ⟨g, cap, e, fun ht => by
      rcases hT g ht with hs | hs
      · exact hg hs
      · cases ts with
        | nil => simp at h2
        | cons t ts =>
          obtain ⟨⟨ds, hl, hc, _⟩, _⟩ := h
          have := lt_of_cells hc hl; omega, h2, h3, RefAll.kept hx hT hg h⟩
theorem RefAll.kept {S T : Nat → Prop} {w w' : World} (hx : ExtBut S w w') (hT : ∀ k, T k → S k ∨ w.heap.size ≤ k) {g : Nat} (hg : ¬ S g) : ∀ {off : Nat} {ts : List Tr}, RefAll S w g off ts → RefAll T w' g off ts
  | _, [], _ => trivial
  | _, _ :: _, ⟨⟨ds, hl, hc, h⟩, hr⟩ => ⟨⟨ds, hl, hc.kept hx hg, RefT.kept hx hT h⟩, RefAll.kept hx hT hg hr⟩
end
/-- Nothing, or a fault. -/
def RefO (S : Nat → Prop) (w : World) : Option Tr → List Value → Prop
  | none, cs => cs = refNone
  | some t, cs => RefT S w t cs
theorem RefO.kept {S T : Nat → Prop} {w w' : World} (hx : ExtBut S w w') (hT : ∀ k, T k → S k ∨ w.heap.size ≤ k) {t : Option Tr} {cs : List Value} (h : RefO S w t cs) : RefO T w' t cs := by
  cases t with
  | none => exact h
  | some t => exact RefT.kept hx hT h
/-- The form of the five cells. -/
theorem RefO.form {S : Nat → Prop} {w : World} {t : Option Tr} {cs : List Value} (h : RefO S w t cs) : ∃ (k : Nat) (c p : Int) (s : ByteArray) (a : Option Addr) (n cap : Nat), cs = [.int .i64 k, .int .i64 c, .int .i64 p, .string s, .slice a n cap] ∧ (k = 0 ↔ t = none) := by
  cases t with
  | none => exact ⟨0, 0, 0, _, _, _, _, h, by simp⟩
  | some t =>
    cases t with
    | code c => exact ⟨1, c, 0, _, _, _, _, h.1, by simp⟩
    | place p t => obtain ⟨g, cap, ds, e, _⟩ := h; exact ⟨2, 0, p, _, _, _, _, e, by simp⟩
    | word s t => obtain ⟨g, cap, ds, e, _⟩ := h; exact ⟨3, 0, 0, s, _, _, _, e, by simp⟩
    | row ts => obtain ⟨g, cap, e, _⟩ := h; exact ⟨4, 0, 0, _, _, _, _, e, by simp⟩

/-! Lists of errors, clear of S. -/
theorem RepS.form {S : Nat → Prop} {w : World} {t : Tr} {v : Value} (h : RepS S w t v) : ∃ u x, v = .iface u x := (RepS.rep h).form
def ErrsS (S : Nat → Prop) (w : World) (b off : Nat) (ts : List (Option Tr)) : Prop := ∀ (j : Nat) t, ts[j]? = some t → ∃ v, w.cell? ⟨b, off + j, none⟩ = some v ∧ RepOS S w t v
def RepValsS (S : Nat → Prop) (w : World) : List Tr → List Value → Prop
  | [], vs => vs = []
  | t :: ts, vs => ∃ v vr, vs = v :: vr ∧ RepS S w t v ∧ RepValsS S w ts vr
theorem RepValsS.length {S : Nat → Prop} {w : World} : ∀ {ts : List Tr} {vs : List Value}, RepValsS S w ts vs → vs.length = ts.length
  | [], _, h => by rw [h]; rfl
  | _ :: _, _, ⟨_, _, e, _, h⟩ => by rw [e]; simp [RepValsS.length h]
theorem RepValsS.snoc {S : Nat → Prop} {w : World} {t : Tr} {v : Value} (hv : RepS S w t v) : ∀ {ts : List Tr} {vs : List Value}, RepValsS S w ts vs → RepValsS S w (ts ++ [t]) (vs ++ [v])
  | [], _, h => ⟨v, [], by rw [h]; rfl, hv, rfl⟩
  | _ :: _, _, ⟨v0, vr, e, h0, h⟩ => ⟨v0, vr ++ [v], by rw [e]; rfl, h0, RepValsS.snoc hv h⟩
theorem RepValsS.all {S : Nat → Prop} {w w' : World} (hx : Ext w w') {b : Nat} : ∀ {off : Nat} {ts : List Tr} {vs : List Value}, RepValsS S w ts vs → (∀ (j : Nat) u, vs[j]? = some u → w'.cell? ⟨b, off + j, none⟩ = some u) → RepAllS S w' b off ts
  | _, [], _, _, _ => trivial
  | off, t :: ts, _, ⟨v, vr, e, h0, h⟩, hc => by
    subst e
    obtain ⟨u, x, rfl⟩ := h0.form
    refine ⟨⟨u, x, hc 0 _ rfl, h0.ext hx⟩, RepValsS.all hx h fun j y hj => ?_⟩
    rw [show off + 1 + j = off + (j + 1) from by omega]
    exact hc (j + 1) y (by simpa using hj)
end Go.Proofs.YtlcnicgjlddldaaDoor
