/- The law PenParts, walked. -/
import Derived.Test.YtgnknliaeoblhabDoorPenG
import Derived.Test.YtgnknliaeoblhabDoorWhole
import Derived.Test.YtgnknliaeoblhabDoorOwnInts
import Derived.Deep.CutBlock
namespace Go.Proofs.YtgnknliaeoblhabDoor
open Go Go.RowKit
attribute [local go_sem 10000] eq_cel

def plainN (n : Int) : Prop := n ≠ 38 ∧ n ≠ 48
def oneP (c : Cel) (n : Int) : Cel := (obeyedP c n []).1
theorem obeyedP_plain {n : Int} (h : plainN n) (c : Cel) (l : List Int) : obeyedP c n l = (oneP c n, l) := by
  obtain ⟨h1, h2⟩ := h
  unfold oneP obeyedP
  by_cases c0 : n = 0
  · rw [if_pos c0, if_pos c0]
  rw [if_neg c0, if_neg c0]
  by_cases c1 : 30 ≤ n ∧ n ≤ 37
  · rw [if_pos c1, if_pos c1]
  rw [if_neg c1, if_neg c1, if_neg h1, if_neg h1]
  by_cases c2 : n = 39
  · rw [if_pos c2, if_pos c2]
  rw [if_neg c2, if_neg c2]
  by_cases c3 : 40 ≤ n ∧ n ≤ 47
  · rw [if_pos c3, if_pos c3]
  rw [if_neg c3, if_neg c3, if_neg h2, if_neg h2]
  by_cases c4 : n = 49
  · rw [if_pos c4, if_pos c4]
  rw [if_neg c4, if_neg c4]
  by_cases c5 : 90 ≤ n ∧ n ≤ 97
  · rw [if_pos c5, if_pos c5]
  rw [if_neg c5, if_neg c5]
  by_cases c6 : 100 ≤ n ∧ n ≤ 107
  · rw [if_pos c6, if_pos c6]
  rw [if_neg c6, if_neg c6]
theorem runP_plain : ∀ (j : Nat) (c : Cel) (m : List Int), m.length ≤ j → (∀ n, n ∈ m → plainN n) → runP j c m = m.foldl oneP c
  | 0, c, m, h, _ => by rw [List.eq_nil_of_length_eq_zero (Nat.le_zero.1 h)]; rfl
  | j + 1, c, [], _, _ => rfl
  | j + 1, c, n :: m, h, hp => by
    show runP j (obeyedP c n m).1 (obeyedP c n m).2 = _
    rw [obeyedP_plain (hp n (List.mem_cons_self ..)) c m]
    exact runP_plain j (oneP c n) m (by simp at h; omega) fun x hx => hp x (List.mem_cons_of_mem _ hx)
/-- Numbers that are obeyed alone. -/
def okN (m : List Int) : Prop := m.length ≤ 8 ∧ ∀ n, n ∈ m → (0 ≤ n ∧ n ≤ 111) ∧ plainN n
theorem okN_rest {m : List Int} (h : okN m) : m.map rest112 = m := by
  have : ∀ n, n ∈ m → rest112 n = id n := fun n hn => rest112_of (h.2 n hn).1
  rw [List.map_congr_left this, List.map_id]
/-- What an act of such numbers makes of a pen. -/
theorem pen_act {m : List Int} (h : okN m) (h1 : 1 ≤ m.length) (c : Cel) : penP c 4 109 0 0 ((min m.length 8 : Nat) : Int) (padP m (min m.length 8)) = m.foldl oneP c := by
  have e8 : min m.length 8 = m.length := by have := h.1; omega
  rw [e8]
  unfold penP
  rw [if_neg (by omega)]
  have e1 : padP m m.length = m ++ List.replicate (8 - m.length) 0 := by unfold padP; rw [List.take_length, okN_rest h]
  have e2 : numsP (m.length : Int) (padP m m.length) = m := by
    unfold numsP
    rw [if_pos (by omega), e1, show (min (m.length : Int) 8).toNat = m.length by omega, List.take_left]
  rw [e2]
  exact runP_plain 8 c m h.1 fun n hn => (h.2 n hn).2
theorem okN_take {m : List Int} (h : okN m) (k : Nat) : okN (m.take k) := ⟨by rw [List.length_take]; have := h.1; omega, fun n hn => h.2 n (List.mem_of_mem_take hn)⟩
theorem okN_drop {m : List Int} (h : okN m) (k : Nat) : okN (m.drop k) := ⟨by rw [List.length_drop]; have := h.1; omega, fun n hn => h.2 n (List.mem_of_mem_drop hn)⟩
theorem fold_parts (m : List Int) (k : Nat) (c : Cel) : (m.drop k).foldl oneP ((m.take k).foldl oneP c) = m.foldl oneP c := by
  rw [← List.foldl_append, List.take_append_drop]
/-- Where they are parted. -/
theorem parted_at (a : Int) (n : Nat) (h2 : 2 ≤ n) (h8 : n ≤ 8) : ∃ k : Nat, 1 ≤ k ∧ k < n ∧ 1 + (wrap64 (wrap64 (a.tmod ((n : Int) - 1) + (n : Int)) - 1)).tmod ((n : Int) - 1) = (k : Int) := by
  have hm : (0 : Int) < (n : Int) - 1 := by omega
  have h1 := Int.tmod_lt_of_pos a hm
  have h2' := Int.lt_tmod_of_pos a hm
  generalize a.tmod ((n : Int) - 1) = u at h1 h2'
  have e1 : wrap64 (u + (n : Int)) = u + (n : Int) := by unfold wrap64; omega
  rw [e1]
  have e2 : wrap64 (u + (n : Int) - 1) = u + (n : Int) - 1 := by unfold wrap64; omega
  rw [e2]
  have h3 := Int.tmod_lt_of_pos (u + (n : Int) - 1) hm
  have h4 := Int.tmod_nonneg ((n : Int) - 1) (show 0 ≤ u + (n : Int) - 1 by omega)
  generalize (u + (n : Int) - 1).tmod ((n : Int) - 1) = q at h3 h4
  exact ⟨(1 + q).toNat, by omega, by omega, by omega⟩
end Go.Proofs.YtgnknliaeoblhabDoor
