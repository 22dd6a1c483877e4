/- Lists of errors, each nothing or a fault. -/
import Derived.Test.YtlcnicgjlddldaaDoorRep
import Derived.Laws.AppendOwn
import Derived.Lib.Builder
namespace Go.Proofs.YtlcnicgjlddldaaDoor
open Go Go.RowKit

/-- Nothing, or a fault. -/
def RepO (w : World) : Option Tr → Value → Prop
  | none, v => v = .nilIface
  | some t, v => Rep w t v
theorem RepO.ext {w w' : World} (hx : Ext w w') {t : Option Tr} {v : Value} (h : RepO w t v) : RepO w' t v := by
  cases t with
  | none => exact h
  | some t => exact Rep.ext hx h
theorem RepO.one {w : World} {t : Option Tr} {v : Value} (h : RepO w t v) : v.oneCell' = true := by
  cases t with
  | none => rw [show v = _ from h]; rfl
  | some t => obtain ⟨u, x, rfl⟩ := Rep.form h; rfl
/-- Errors lie from a place of a block on. -/
def Errs (w : World) (b off : Nat) (ts : List (Option Tr)) : Prop := ∀ (j : Nat) t, ts[j]? = some t → ∃ v, w.cell? ⟨b, off + j, none⟩ = some v ∧ RepO w t v
theorem Errs.ext {w w' : World} (hx : Ext w w') {b off : Nat} {ts : List (Option Tr)} (h : Errs w b off ts) : Errs w' b off ts := fun j t hj =>
  let ⟨v, hc, hr⟩ := h j t hj; ⟨v, hx.cell hc, hr.ext hx⟩
/-- The slice's value. -/
def ListRep (w : World) (sv : Value) (ts : List (Option Tr)) : Prop :=
  (ts = [] ∧ ∃ a c, sv = .slice a 0 c) ∨ ∃ b off cap, sv = .slice (some ⟨b, off, none⟩) ts.length cap ∧ Errs w b off ts
theorem ListRep.ext {w w' : World} (hx : Ext w w') {sv : Value} {ts : List (Option Tr)} (h : ListRep w sv ts) : ListRep w' sv ts := by
  rcases h with h | ⟨b, off, cap, e, h⟩
  · exact .inl h
  · exact .inr ⟨b, off, cap, e, h.ext hx⟩

/-- Those that are not nothing. -/
def somes : List (Option Tr) → List Tr
  | [] => []
  | none :: l => somes l
  | some t :: l => t :: somes l
theorem somes_append (l m : List (Option Tr)) : somes (l ++ m) = somes l ++ somes m := by
  induction l with
  | nil => rfl
  | cons x l ih => cases x <;> simp [somes, ih]
theorem somes_take (ts : List (Option Tr)) (i : Nat) (t : Option Tr) (h : ts[i]? = some t) : somes (ts.take (i + 1)) = somes (ts.take i) ++ somes [t] := by
  rw [List.take_add_one, somes_append, h]; rfl
theorem somes_le (l : List (Option Tr)) : (somes l).length ≤ l.length := by
  induction l with
  | nil => simp [somes]
  | cons x l ih => cases x <;> simp [somes] <;> omega

def RepVals (w : World) : List Tr → List Value → Prop
  | [], vs => vs = []
  | t :: ts, vs => ∃ v vr, vs = v :: vr ∧ Rep w t v ∧ RepVals w ts vr
theorem RepVals.length {w : World} : ∀ {ts : List Tr} {vs : List Value}, RepVals w ts vs → vs.length = ts.length
  | [], _, h => by rw [h]; rfl
  | _ :: _, _, ⟨_, _, e, _, h⟩ => by rw [e]; simp [RepVals.length h]
theorem RepVals.snoc {w : World} {t : Tr} {v : Value} (hv : Rep w t v) : ∀ {ts : List Tr} {vs : List Value}, RepVals w ts vs → RepVals w (ts ++ [t]) (vs ++ [v])
  | [], _, h => ⟨v, [], by rw [h]; rfl, hv, rfl⟩
  | _ :: _, _, ⟨v0, vr, e, h0, h⟩ => ⟨v0, vr ++ [v], by rw [e]; rfl, h0, RepVals.snoc hv h⟩
theorem RepVals.all {w w' : World} (hx : Ext w w') {b : Nat} : ∀ {off : Nat} {ts : List Tr} {vs : List Value}, RepVals w ts vs → (∀ (j : Nat) u, vs[j]? = some u → w'.cell? ⟨b, off + j, none⟩ = some u) → RepAll w' b off ts
  | _, [], _, _, _ => trivial
  | off, t :: ts, _, ⟨v, vr, e, h0, h⟩, hc => by
    subst e
    obtain ⟨u, x, rfl⟩ := h0.form
    refine ⟨⟨u, x, hc 0 _ rfl, h0.ext hx⟩, RepVals.all hx h fun j y hj => ?_⟩
    rw [show off + 1 + j = off + (j + 1) from by omega]
    exact hc (j + 1) y (by simpa using hj)
/-- The row's tree: nothing, the one itself, or the row. -/
def joined (ts : List (Option Tr)) : Option Tr :=
  match somes ts with
  | [] => none
  | [t] => some t
  | l => some (.row l)
end Go.Proofs.YtlcnicgjlddldaaDoor
