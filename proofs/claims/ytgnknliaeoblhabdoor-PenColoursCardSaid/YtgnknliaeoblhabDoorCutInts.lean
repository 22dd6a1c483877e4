/- A row of numbers, cut to its first ones. -/
import Derived.Test.YtgnknliaeoblhabDoorPutAll
namespace Go.Proofs.YtgnknliaeoblhabDoor
open Go Go.RowKit

theorem IsInts.cut {w : World} {A : Option Addr} {c : Nat} {zs : List Int} (h : IsInts w (.slice A zs.length c) zs) (k : Nat) (hk : k ≤ zs.length) : IsInts w (.slice A k c) (zs.take k) := by
  obtain ⟨A', c', e, hc, h⟩ := h
  injection e with e1 _ e3
  subst e1 e3
  have hl : (zs.take k).length = k := by rw [List.length_take]; omega
  refine ⟨A, c, by rw [hl], ⟨by have := hc.1; omega, hc.2⟩, fun i n hi => ?_⟩
  have hik : i < k := by
    have := (List.getElem?_eq_some_iff.1 hi).1
    omega
  rw [List.getElem?_take_of_lt hik] at hi
  exact h i n hi
theorem IsInts.addr {w : World} {A : Option Addr} {n c : Nat} {zs : List Int} (h : IsInts w (.slice A n c) zs) (hk : 0 < zs.length) : ∃ g off, A = some ⟨g, off, none⟩ := by
  obtain ⟨A', c', e, hc, h⟩ := h
  injection e with e1 _ e3
  subst e1 e3
  obtain ⟨_, g, off, e, _⟩ := h 0 _ (List.getElem?_eq_getElem hk)
  exact ⟨g, off, e⟩
theorem IsInts.form {w : World} {v : Value} {zs : List Int} (h : IsInts w v zs) : ∃ A c, v = .slice A zs.length c ∧ zs.length ≤ c ∧ (A = none → c = 0) := by
  obtain ⟨A, c, e, hc, _⟩ := h
  exact ⟨A, c, e, hc.1, hc.2⟩
theorem IsInts.at {w : World} {A : Option Addr} {n c : Nat} {zs : List Int} (h : IsInts w (.slice A n c) zs) {i : Nat} {m : Int} (hi : zs[i]? = some m) : isI64 m ∧ ∃ g off, A = some ⟨g, off, none⟩ ∧ w.cell? ⟨g, off + i, none⟩ = some (.int .i64 m) := by
  obtain ⟨A', c', e, _, h⟩ := h
  injection e with e1 _ _
  subst e1
  exact h i m hi
theorem IsInts.at' {w : World} {g off n c : Nat} {zs : List Int} (h : IsInts w (.slice (some ⟨g, off, none⟩) n c) zs) {i : Nat} {m : Int} (hi : zs[i]? = some m) : isI64 m ∧ w.cell? ⟨g, off + i, none⟩ = some (.int .i64 m) := by
  obtain ⟨h1, g', off', e, hc⟩ := h.at hi
  injection e with e
  injection e with e1 e2 _
  subst e1 e2
  exact ⟨h1, hc⟩
/-- The first so many of a row. -/
def firsts (zs : List Int) (k : Nat) : List Int := if k < zs.length then zs.take k else zs
theorem firsts_len (zs : List Int) (k : Nat) : (firsts zs k).length ≤ k := by
  unfold firsts; split
  · rw [List.length_take]; omega
  · omega
end Go.Proofs.YtgnknliaeoblhabDoor
