/- Words of no program: what numbers make of a pen (chapter 8), as functions of lists. -/
import Derived.Test.YtgnknliaeoblhabDoorCelOne
namespace Go.Proofs.YtgnknliaeoblhabDoor
open Go Go.RowKit

/-- The colour of a number from 0 to 255. -/
def colP (n : Int) : Int := max n 1
def stepP (n : Int) : Int := min (max n 0) 255 / 43
def rgbP (r g b : Int) : Int := 16 + 36 * stepP r + 6 * stepP g + stepP b
theorem stepP_in (n : Int) : 0 ≤ stepP n ∧ stepP n ≤ 5 := by unfold stepP; omega
theorem rgbP_in (r g b : Int) : 16 ≤ rgbP r g b ∧ rgbP r g b ≤ 231 := by
  have := stepP_in r
  have := stepP_in g
  have := stepP_in b
  unfold rgbP; omega
theorem stepP_mono {a b : Int} (h : a ≤ b) : stepP a ≤ stepP b := by unfold stepP; omega
theorem rgbP_mono {a b c d e f : Int} (h1 : a ≤ d) (h2 : b ≤ e) (h3 : c ≤ f) : rgbP a b c ≤ rgbP d e f := by
  have := stepP_mono h1
  have := stepP_mono h2
  have := stepP_mono h3
  unfold rgbP; omega
/-- The ways of drawing: what turns each on, and off, and its bit. -/
def onW (i : Nat) : Int := [1, 2, 3, 4, 5, 7].getD i 0
def offW (i : Nat) : Int := [22, 22, 23, 24, 25, 27].getD i 0
def bitW (i : Nat) : Int := [1, 2, 4, 8, 16, 32].getD i 0
def wayP (i : Nat) (a n : Int) : Int := if n = onW i then bits .or .u8 a (bitW i) else if n = offW i then bits .andNot .u8 a (bitW i) else a
/-- What the ways from the i-th one on make of it. -/
def drawFrom : Nat → Nat → Int → Int → Int
  | 0, _, a, _ => a
  | k + 1, i, a, n => drawFrom k (i + 1) (wayP i a n) n
def drawnP (a n : Int) : Int := drawFrom 6 0 a n
theorem drawnP_eq (a n : Int) : drawnP a n = wayP 5 (wayP 4 (wayP 3 (wayP 2 (wayP 1 (wayP 0 a n) n) n) n) n) n := rfl
/-- The colour that is chosen, and what is left. -/
def chosenP (was : Int) : List Int → Int × List Int
  | [] => (was, [])
  | h :: t =>
    if h = 5 then (match t with | [] => (was, []) | n :: t => (if 0 ≤ n ∧ n ≤ 255 then colP n else was, t))
    else if h = 2 then (match t with | r :: g :: b :: t => (rgbP r g b, t) | _ => (was, []))
    else (was, [])
def obeyedP (c : Cel) (n : Int) (l : List Int) : Cel × List Int :=
  if n = 0 then (⟨c.r, 0, 0, 0⟩, l)
  else if 30 ≤ n ∧ n ≤ 37 then (⟨c.r, colP (n - 30), c.b, c.a⟩, l)
  else if n = 38 then (⟨c.r, (chosenP c.f l).1, c.b, c.a⟩, (chosenP c.f l).2)
  else if n = 39 then (⟨c.r, 0, c.b, c.a⟩, l)
  else if 40 ≤ n ∧ n ≤ 47 then (⟨c.r, c.f, colP (n - 40), c.a⟩, l)
  else if n = 48 then (⟨c.r, c.f, (chosenP c.b l).1, c.a⟩, (chosenP c.b l).2)
  else if n = 49 then (⟨c.r, c.f, 0, c.a⟩, l)
  else if 90 ≤ n ∧ n ≤ 97 then (⟨c.r, colP (n - 82), c.b, c.a⟩, l)
  else if 100 ≤ n ∧ n ≤ 107 then (⟨c.r, c.f, colP (n - 92), c.a⟩, l)
  else (⟨c.r, c.f, c.b, drawnP c.a n⟩, l)
theorem chosenP_len (was : Int) (l : List Int) : (chosenP was l).2.length ≤ l.length := by
  match l with
  | [] => exact Nat.le_refl _
  | [h] => simp only [chosenP]; by_cases h1 : h = 5 <;> by_cases h2 : h = 2 <;> simp [h1, h2]
  | [h, a] => simp only [chosenP]; by_cases h1 : h = 5 <;> by_cases h2 : h = 2 <;> simp [h1, h2]
  | [h, a, b] => simp only [chosenP]; by_cases h1 : h = 5 <;> by_cases h2 : h = 2 <;> simp [h1, h2]
  | h :: a :: b :: c :: t => simp only [chosenP]; by_cases h1 : h = 5 <;> by_cases h2 : h = 2 <;> simp [h1, h2] <;> omega
theorem obeyedP_len (c : Cel) (n : Int) (l : List Int) : (obeyedP c n l).2.length ≤ l.length := by
  unfold obeyedP
  repeat' split
  all_goals first | exact Nat.le_refl _ | exact chosenP_len _ _
/-- All that are left, one by one. -/
def runP : Nat → Cel → List Int → Cel
  | 0, c, _ => c
  | _ + 1, c, [] => c
  | k + 1, c, n :: l => runP k (obeyedP c n l).1 (obeyedP c n l).2
theorem runP_nil (k : Nat) (c : Cel) : runP k c [] = c := by cases k <;> rfl
theorem runP_more (k j : Nat) : ∀ (c : Cel) (l : List Int), l.length ≤ k → k ≤ j → runP j c l = runP k c l := by
  induction k generalizing j with
  | zero =>
    intro c l h _
    rw [List.eq_nil_of_length_eq_zero (Nat.le_zero.1 h), runP_nil]; rfl
  | succ k ih =>
    intro c l h hj
    obtain ⟨j, rfl⟩ : ∃ i, j = i + 1 := ⟨j - 1, by omega⟩
    cases l with
    | nil => rfl
    | cons n l =>
      show runP j _ _ = runP k _ _
      have := obeyedP_len c n l
      exact ih j _ _ (by simp at h; omega) (by omega)
/-- What an act's numbers are. -/
def numsP (n : Int) (ns : List Int) : List Int := if 0 < n then ns.take (min n 8).toNat else [0]
def penP (c : Cel) (kind r pr mid n : Int) (ns : List Int) : Cel := if kind ≠ 4 ∨ r ≠ 109 ∨ pr ≠ 0 ∨ mid ≠ 0 then c else runP 8 c (numsP n ns)
theorem bitW_cases (i : Nat) (hi : i < 6) : i = 0 ∨ i = 1 ∨ i = 2 ∨ i = 3 ∨ i = 4 ∨ i = 5 := by omega
theorem or_u8 {a : Int} (h : isU8 a) (i : Nat) (hi : i < 6) : isU8 (bits .or .u8 a (bitW i)) ∧ isU8 (bits .andNot .u8 a (bitW i)) := by
  obtain ⟨n, rfl⟩ := u8_nat h
  have : ∀ i : Fin 6, ∀ n : Fin 256, (0 ≤ bits .or .u8 ((n.val : Nat) : Int) (bitW i.val) ∧ bits .or .u8 ((n.val : Nat) : Int) (bitW i.val) < 256) ∧ (0 ≤ bits .andNot .u8 ((n.val : Nat) : Int) (bitW i.val) ∧ bits .andNot .u8 ((n.val : Nat) : Int) (bitW i.val) < 256) := by decide +kernel
  exact this ⟨i, hi⟩ n
theorem wayP_u8 {a : Int} (h : isU8 a) (i : Nat) (hi : i < 6) (n : Int) : isU8 (wayP i a n) := by
  unfold wayP
  split
  · exact (or_u8 h i hi).1
  split
  · exact (or_u8 h i hi).2
  · exact h
theorem drawnP_u8 {a : Int} (h : isU8 a) (n : Int) : isU8 (drawnP a n) := by
  rw [drawnP_eq]
  exact wayP_u8 (wayP_u8 (wayP_u8 (wayP_u8 (wayP_u8 (wayP_u8 h 0 (by decide) n) 1 (by decide) n) 2 (by decide) n) 3 (by decide) n) 4 (by decide) n) 5 (by decide) n
theorem colP_u8 {n : Int} (h0 : n ≤ 255) : isU8 (colP n) := by unfold isU8 colP; omega
theorem rgbP_u8 (r g b : Int) : isU8 (rgbP r g b) := by have := rgbP_in r g b; unfold isU8; omega
theorem chosenP_u8 {was : Int} (h : isU8 was) (l : List Int) : isU8 (chosenP was l).1 := by
  unfold chosenP
  repeat' split
  all_goals first | exact h | exact rgbP_u8 _ _ _ | exact colP_u8 (by omega)
theorem obeyedP_ok {c : Cel} (h : c.ok) (n : Int) (l : List Int) : (obeyedP c n l).1.ok := by
  obtain ⟨h1, h2, h3, h4⟩ := h
  have z : isU8 0 := by unfold isU8; omega
  unfold obeyedP
  split
  · exact ⟨h1, z, z, z⟩
  split
  · exact ⟨h1, colP_u8 (by omega), h3, h4⟩
  split
  · exact ⟨h1, chosenP_u8 h2 l, h3, h4⟩
  split
  · exact ⟨h1, z, h3, h4⟩
  split
  · exact ⟨h1, h2, colP_u8 (by omega), h4⟩
  split
  · exact ⟨h1, h2, chosenP_u8 h3 l, h4⟩
  split
  · exact ⟨h1, h2, z, h4⟩
  split
  · exact ⟨h1, colP_u8 (by omega), h3, h4⟩
  split
  · exact ⟨h1, h2, colP_u8 (by omega), h4⟩
  · exact ⟨h1, h2, h3, drawnP_u8 h4 n⟩
theorem obeyedP_r (c : Cel) (n : Int) (l : List Int) : (obeyedP c n l).1.r = c.r := by
  unfold obeyedP
  repeat' split
  all_goals rfl
theorem runP_r : ∀ (k : Nat) (c : Cel) (l : List Int), (runP k c l).r = c.r
  | 0, _, _ => rfl
  | _ + 1, _, [] => rfl
  | k + 1, c, n :: l => (runP_r k _ _).trans (obeyedP_r c n l)
theorem runP_ok : ∀ (k : Nat) {c : Cel} (_ : c.ok) (l : List Int), (runP k c l).ok
  | 0, _, h, _ => h
  | _ + 1, _, h, [] => h
  | k + 1, _, h, n :: l => runP_ok k (obeyedP_ok h n l) _
theorem numsP_len (n : Int) (ns : List Int) : (numsP n ns).length ≤ 8 := by
  unfold numsP
  split
  · rw [List.length_take]; omega
  · simp
end Go.Proofs.YtgnknliaeoblhabDoor
