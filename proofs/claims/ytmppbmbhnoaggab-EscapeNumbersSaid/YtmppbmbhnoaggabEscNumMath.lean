/- Words of no program: what a parser tells of numbers that are written, of texts, of a new beginning. -/
import Derived.Test.YtmppbmbhnoaggabEscMath
namespace Go.Proofs.Ytmppbmbhnoaggab
open Go Go.RowKit

def digs (k : Nat) : List Int := [48 + ((k / 10000 % 10 : Nat) : Int), 48 + ((k / 1000 % 10 : Nat) : Int), 48 + ((k / 100 % 10 : Nat) : Int), 48 + ((k / 10 % 10 : Nat) : Int), 48 + ((k / 1 % 10 : Nat) : Int)]
def capN (k : Nat) : Int := ((min (k % 100000) 9999 : Nat) : Int)
/-- What is written of a number: what parts it from the one ahead, and its digits. -/
def writ (i k : Nat) : List Int := (if 0 < i then [58 + ((k % 2 : Nat) : Int)] else []) ++ digs k
theorem step_digit (n : Nat) (ns : List Int) (d : Nat) (hd : d ≤ 9) : stepE ⟨2, 0, 0, n, ns⟩ (48 + (d : Int)) = (digitE ⟨2, 0, 0, n, ns⟩ (d : Int), .none) := by
  unfold stepE
  rw [if_neg (by omega), if_neg (by omega), if_neg (by omega), if_pos (by omega)]
  unfold otherE
  rw [if_neg (show ¬ (2 : Int) = 0 by decide), if_neg (show ¬ (2 : Int) = 1 by decide), if_pos rfl]
  unfold ctlE
  rw [if_neg (by omega), if_pos (show (0 : Int) = 0 ∧ 48 ≤ 48 + (d : Int) ∧ 48 + (d : Int) ≤ 57 by omega), show 48 + (d : Int) - 48 = (d : Int) by omega]
theorem step_sep (n : Nat) (ns : List Int) (b : Nat) (hb : b ≤ 1) : stepE ⟨2, 0, 0, n, ns⟩ (58 + (b : Int)) = (⟨2, 0, 0, min (max n 1 + 1) 9, ns⟩, .none) := by
  unfold stepE
  rw [if_neg (by omega), if_neg (by omega), if_neg (by omega), if_pos (by omega)]
  unfold otherE
  rw [if_neg (show ¬ (2 : Int) = 0 by decide), if_neg (show ¬ (2 : Int) = 1 by decide), if_pos rfl]
  unfold ctlE
  rw [if_neg (by omega), if_neg (by omega), if_pos (show (0 : Int) = 0 ∧ (58 + (b : Int) = 58 ∨ 58 + (b : Int) = 59) by omega)]
theorem run_quiet {s s' : Par} {r : Int} (l : List Int) (h : stepE s r = (s', .none)) : runE s (r :: l) = runE s' l := by
  simp only [runE, h]
  simp
theorem digit_at (n0 i : Nat) (ns : List Int) (d : Int) (hn : max n0 1 = i + 1) (hi : i < 8) : digitE ⟨2, 0, 0, n0, ns⟩ d = ⟨2, 0, 0, i + 1, ns.set i (min (ns.getD i 0 * 10 + d) 9999)⟩ := by
  unfold digitE
  simp only [hn]
  rw [if_pos (by omega), Nat.add_sub_cancel]
theorem getD_set (ns : List Int) (i : Nat) (v : Int) (h : i < ns.length) : (ns.set i v).getD i 0 = v := by
  rw [List.getD_eq_getElem?_getD, List.getElem?_set_self h]; rfl
theorem run_digs (n0 i : Nat) (ns : List Int) (k : Nat) (hn : max n0 1 = i + 1) (hi : i < 8) (hl : ns.length = 8) (h0 : ns.getD i 0 = 0) : runE ⟨2, 0, 0, n0, ns⟩ (digs k) = ([], ⟨2, 0, 0, i + 1, ns.set i (capN k)⟩) := by
  have hil : i < ns.length := by omega
  have hn1 : max (i + 1) 1 = i + 1 := by omega
  unfold digs
  rw [run_quiet _ (step_digit _ _ _ (by omega)), digit_at n0 i ns _ hn hi]
  rw [run_quiet _ (step_digit _ _ _ (by omega)), digit_at (i + 1) i _ _ hn1 hi, getD_set _ _ _ hil, List.set_set]
  rw [run_quiet _ (step_digit _ _ _ (by omega)), digit_at (i + 1) i _ _ hn1 hi, getD_set _ _ _ hil, List.set_set]
  rw [run_quiet _ (step_digit _ _ _ (by omega)), digit_at (i + 1) i _ _ hn1 hi, getD_set _ _ _ hil, List.set_set]
  rw [run_quiet _ (step_digit _ _ _ (by omega)), digit_at (i + 1) i _ _ hn1 hi, getD_set _ _ _ hil, List.set_set, h0]
  unfold capN
  simp only [runE, Prod.mk.injEq, Par.mk.injEq, true_and]
  congr 1
  omega
theorem run_digs9 (ns : List Int) (k : Nat) : runE ⟨2, 0, 0, 9, ns⟩ (digs k) = ([], ⟨2, 0, 0, 9, ns⟩) := by
  have hd : ∀ d, digitE ⟨2, 0, 0, 9, ns⟩ d = ⟨2, 0, 0, 9, ns⟩ := fun d => by unfold digitE; simp
  unfold digs
  rw [run_quiet _ (step_digit _ _ _ (by omega)), hd]
  rw [run_quiet _ (step_digit _ _ _ (by omega)), hd]
  rw [run_quiet _ (step_digit _ _ _ (by omega)), hd]
  rw [run_quiet _ (step_digit _ _ _ (by omega)), hd]
  rw [run_quiet _ (step_digit _ _ _ (by omega)), hd]
  rfl
/-- A number more. -/
theorem run_writ (i k : Nat) (ns : List Int) (hl : ns.length = 8) (h0 : i < 8 → ns.getD i 0 = 0) : runE ⟨2, 0, 0, min i 9, ns⟩ (writ i k) = ([], ⟨2, 0, 0, min (i + 1) 9, if i < 8 then ns.set i (capN k) else ns⟩) := by
  unfold writ
  rcases Nat.eq_zero_or_pos i with rfl | hp
  · rw [if_neg (by omega), List.nil_append, if_pos (by omega)]
    exact run_digs 0 0 ns k rfl (by omega) hl (h0 (by omega))
  · rw [if_pos hp, List.singleton_append, run_quiet _ (step_sep _ _ _ (by omega))]
    by_cases h8 : i < 8
    · rw [if_pos h8, show min (max (min i 9) 1 + 1) 9 = i + 1 by omega, show min (i + 1) 9 = i + 1 by omega]
      exact run_digs (i + 1) i ns k (by omega) h8 hl (h0 h8)
    · rw [if_neg h8, show min (max (min i 9) 1 + 1) 9 = 9 by omega, show min (i + 1) 9 = 9 by omega]
      exact run_digs9 ns k
/-- What has been written, and what has been put down, behind i numbers. -/
structure Writ (i : Nat) (l ns : List Int) : Prop where
  run : runE (.inn 2) l = ([], ⟨2, 0, 0, min i 9, ns⟩)
  len : ns.length = 8
  rest : ∀ j, i ≤ j → j < 8 → ns.getD j 0 = 0
  nums : ∀ x, x ∈ ns → 0 ≤ x ∧ x ≤ 9999
  size : l.length ≤ i * 6
  are : ∀ x, x ∈ l → 0 ≤ x ∧ x ≤ 127
theorem writ_zero : Writ 0 [] z8 := ⟨rfl, rfl, fun j _ _ => z8_getD j, z8_in, Nat.le_refl _, fun x hx => by cases hx⟩
theorem capN_in (k : Nat) : 0 ≤ capN k ∧ capN k ≤ 9999 := by unfold capN; omega
theorem writ_len (i k : Nat) : (writ i k).length ≤ 6 := by
  unfold writ digs
  split <;> simp
theorem writ_are (i k : Nat) : ∀ x, x ∈ writ i k → 0 ≤ x ∧ x ≤ 127 := by
  intro x hx
  unfold writ digs at hx
  simp only [List.mem_append, List.mem_cons, List.not_mem_nil, or_false] at hx
  rcases hx with hx | hx
  · split at hx
    · have := List.mem_singleton.1 hx; omega
    · cases hx
  · omega
theorem writ_next {i : Nat} {l ns : List Int} (h : Writ i l ns) (k : Nat) : Writ (i + 1) (l ++ writ i k) (if i < 8 then ns.set i (capN k) else ns) := by
  refine ⟨?_, ?_, ?_, ?_, ?_, ?_⟩
  · rw [runE_append, h.run]
    simp only
    rw [run_writ i k ns h.len (fun h8 => h.rest i (Nat.le_refl _) h8)]
    rfl
  · split
    · rw [List.length_set]; exact h.len
    · exact h.len
  · intro j hj hj8
    split
    · rw [List.getD_eq_getElem?_getD, List.getElem?_set_ne (by omega), ← List.getD_eq_getElem?_getD]
      exact h.rest j (by omega) hj8
    · exact h.rest j (by omega) hj8
  · intro x hx
    split at hx
    · rcases List.mem_or_eq_of_mem_set hx with hx | rfl
      · exact h.nums x hx
      · exact capN_in k
    · exact h.nums x hx
  · rw [List.length_append]
    have := h.size
    have := writ_len i k
    omega
  · intro x hx
    rcases List.mem_append.1 hx with hx | hx
    · exact h.are x hx
    · exact writ_are i k x hx
theorem step_end (i : Nat) (ns : List Int) (f : Int) (h0 : 64 ≤ f) (h1 : f ≤ 126) : stepE ⟨2, 0, 0, min i 9, ns⟩ f = (.new, ⟨4, f, 0, 0, min i 8, ns⟩) := by
  unfold stepE
  rw [if_neg (by omega), if_neg (by omega), if_neg (by omega), if_pos (by omega)]
  unfold otherE
  rw [if_neg (show ¬ (2 : Int) = 0 by decide), if_neg (show ¬ (2 : Int) = 1 by decide), if_pos rfl]
  unfold ctlE
  rw [if_pos ⟨h0, h1⟩]
  simp only [Prod.mk.injEq, ActV.mk.injEq, true_and, and_true]
  omega
theorem step_open : stepE .new 27 = (.inn 1, .none) := rfl
theorem step_brack : stepE (.inn 1) 91 = (.inn 2, .none) := by decide
theorem run_open (l : List Int) : runE .new (27 :: 91 :: l) = runE (.inn 2) l := by
  rw [run_quiet _ step_open, run_quiet _ step_brack]
/-- A character that is printed at rest, and left out elsewhere. -/
def plainE (r : Int) : Bool := decide (32 ≤ r) && !(decide (127 ≤ r) && decide (r ≤ 159)) && decide (r ≤ 1114111)
theorem step_print (r : Int) (h : 32 ≤ r ∧ r ≤ 126 ∨ 160 ≤ r ∧ r ≤ 1114111) : stepE .new r = (.new, ⟨1, r, 0, 0, 0, z8⟩) := by
  unfold stepE
  rw [if_neg (by omega), if_neg (by omega), if_neg (by omega), if_pos h]
  rfl
theorem step_left (r : Int) (h : 32 ≤ r ∧ r ≤ 126 ∨ 160 ≤ r ∧ r ≤ 1114111) : stepE (.inn 4) r = (.inn 4, .none) := by
  unfold stepE
  rw [if_neg (by omega), if_neg (by omega), if_neg (by omega), if_pos h]
  rfl
theorem step_bell : stepE (.inn 4) 7 = (.new, .none) := by decide
theorem step_can (s : Par) : stepE s 24 = (.new, .none) := rfl
theorem step_text (r : Int) (h : leavesE r = true) : stepE (.inn 1) r = (.inn 4, .none) := by
  have h' := h
  unfold leavesE at h'
  simp only [Bool.or_eq_true, beq_iff_eq] at h'
  unfold stepE
  rw [if_neg (by omega), if_neg (by omega), if_neg (by omega), if_pos (by omega)]
  show escE (.inn 1) r = _
  unfold escE
  rw [if_neg (by omega), if_neg (by omega), if_pos ⟨rfl, h⟩]
end Go.Proofs.Ytmppbmbhnoaggab
