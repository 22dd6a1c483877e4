/- The law PenParts, walked. · Words of no program: a parser of characters and its acts (chapter 7), as functions of lists. · Words of no program: what a parser tells of numbers that are written, of texts, of a new beginning. · Words of no program: the characters that set a pen, and what a parser and a pen make of them. · Words of no program: a pen is what was set. · What the laid variables hold, and that it stays so. -/
import Derived.Test.YtgnknliaeoblhabDoorV1
import Derived.Test.YtgnknliaeoblhabDoorV2
import Derived.Test.YtgnknliaeoblhabDoorV5
import Derived.Deep.CutBlock
import Derived.WalkKit
import Derived.Lib.ItoaNum
import Derived.Test.YtgnknliaeoblhabDoorProg
import Derived.Lib.LaidTab
import Derived.KernelRfl
namespace Go.Proofs.YtgnknliaeoblhabDoor
open Go Go.RowKit
attribute [local go_sem 10000] eq_cel

def plainN (n : Int) : Prop := n ≠ 38 ∧ n ≠ 48
def oneP (c : Cel) (n : Int) : Cel := (obeyedP c n []).1
theorem obeyedP_plain {n : Int} (h : plainN n) (c : Cel) (l : List Int) : obeyedP c n l = (oneP c n, l) := by
  obtain ⟨h1, h2⟩ := h
  unfold oneP obeyedP
  by_cases c0 : n = 0
  · rw [if_pos c0, if_pos c0]
  rw [if_neg c0, if_neg c0]
  by_cases c1 : 30 ≤ n ∧ n ≤ 37
  · rw [if_pos c1, if_pos c1]
  rw [if_neg c1, if_neg c1, if_neg h1, if_neg h1]
  by_cases c2 : n = 39
  · rw [if_pos c2, if_pos c2]
  rw [if_neg c2, if_neg c2]
  by_cases c3 : 40 ≤ n ∧ n ≤ 47
  · rw [if_pos c3, if_pos c3]
  rw [if_neg c3, if_neg c3, if_neg h2, if_neg h2]
  by_cases c4 : n = 49
  · rw [if_pos c4, if_pos c4]
  rw [if_neg c4, if_neg c4]
  by_cases c5 : 90 ≤ n ∧ n ≤ 97
  · rw [if_pos c5, if_pos c5]
  rw [if_neg c5, if_neg c5]
  by_cases c6 : 100 ≤ n ∧ n ≤ 107
  · rw [if_pos c6, if_pos c6]
  rw [if_neg c6, if_neg c6]
theorem runP_plain : ∀ (j : Nat) (c : Cel) (m : List Int), m.length ≤ j → (∀ n, n ∈ m → plainN n) → runP j c m = m.foldl oneP c
  | 0, c, m, h, _ => by rw [List.eq_nil_of_length_eq_zero (Nat.le_zero.1 h)]; rfl
  | j + 1, c, [], _, _ => rfl
  | j + 1, c, n :: m, h, hp => by
    show runP j (obeyedP c n m).1 (obeyedP c n m).2 = _
    rw [obeyedP_plain (hp n (List.mem_cons_self ..)) c m]
    exact runP_plain j (oneP c n) m (by simp at h; omega) fun x hx => hp x (List.mem_cons_of_mem _ hx)
/-- Numbers that are obeyed alone. -/
def okN (m : List Int) : Prop := m.length ≤ 8 ∧ ∀ n, n ∈ m → (0 ≤ n ∧ n ≤ 111) ∧ plainN n
theorem okN_rest {m : List Int} (h : okN m) : m.map rest112 = m := by
  have : ∀ n, n ∈ m → rest112 n = id n := fun n hn => rest112_of (h.2 n hn).1
  rw [List.map_congr_left this, List.map_id]
/-- What an act of such numbers makes of a pen. -/
theorem pen_act {m : List Int} (h : okN m) (h1 : 1 ≤ m.length) (c : Cel) : penP c 4 109 0 0 ((min m.length 8 : Nat) : Int) (padP m (min m.length 8)) = m.foldl oneP c := by
  have e8 : min m.length 8 = m.length := by have := h.1; omega
  rw [e8]
  unfold penP
  rw [if_neg (by omega)]
  have e1 : padP m m.length = m ++ List.replicate (8 - m.length) 0 := by unfold padP; rw [List.take_length, okN_rest h]
  have e2 : numsP (m.length : Int) (padP m m.length) = m := by
    unfold numsP
    rw [if_pos (by omega), e1, show (min (m.length : Int) 8).toNat = m.length by omega, List.take_left]
  rw [e2]
  exact runP_plain 8 c m h.1 fun n hn => (h.2 n hn).2
theorem okN_take {m : List Int} (h : okN m) (k : Nat) : okN (m.take k) := ⟨by rw [List.length_take]; have := h.1; omega, fun n hn => h.2 n (List.mem_of_mem_take hn)⟩
theorem okN_drop {m : List Int} (h : okN m) (k : Nat) : okN (m.drop k) := ⟨by rw [List.length_drop]; have := h.1; omega, fun n hn => h.2 n (List.mem_of_mem_drop hn)⟩
theorem fold_parts (m : List Int) (k : Nat) (c : Cel) : (m.drop k).foldl oneP ((m.take k).foldl oneP c) = m.foldl oneP c := by
  rw [← List.foldl_append, List.take_append_drop]
/-- Where they are parted. -/
theorem parted_at (a : Int) (n : Nat) (h2 : 2 ≤ n) (h8 : n ≤ 8) : ∃ k : Nat, 1 ≤ k ∧ k < n ∧ 1 + (wrap64 (wrap64 (a.tmod ((n : Int) - 1) + (n : Int)) - 1)).tmod ((n : Int) - 1) = (k : Int) := by
  have hm : (0 : Int) < (n : Int) - 1 := by omega
  have h1 := Int.tmod_lt_of_pos a hm
  have h2' := Int.lt_tmod_of_pos a hm
  generalize a.tmod ((n : Int) - 1) = u at h1 h2'
  have e1 : wrap64 (u + (n : Int)) = u + (n : Int) := by unfold wrap64; omega
  rw [e1]
  have e2 : wrap64 (u + (n : Int) - 1) = u + (n : Int) - 1 := by unfold wrap64; omega
  rw [e2]
  have h3 := Int.tmod_lt_of_pos (u + (n : Int) - 1) hm
  have h4 := Int.tmod_nonneg ((n : Int) - 1) (show 0 ≤ u + (n : Int) - 1 by omega)
  generalize (u + (n : Int) - 1).tmod ((n : Int) - 1) = q at h3 h4
  exact ⟨(1 + q).toNat, by omega, by omega, by omega⟩
end Go.Proofs.YtgnknliaeoblhabDoor
namespace Go.Proofs.YtgnknliaeoblhabDoor
open Go Go.RowKit

abbrev z8 : List Int := [0, 0, 0, 0, 0, 0, 0, 0]
/-- An act. -/
structure ActV where
  kind : Int
  r : Int
  pr : Int
  mid : Int
  n : Nat
  ns : List Int
  deriving DecidableEq
abbrev ActV.none : ActV := ⟨0, 0, 0, 0, 0, z8⟩
/-- A parser. -/
structure Par where
  st : Int
  pr : Int
  mid : Int
  n : Nat
  ns : List Int
  deriving DecidableEq
abbrev Par.inn (k : Int) : Par := ⟨k, 0, 0, 0, z8⟩
abbrev Par.new : Par := .inn 0
def obeyedE (s : Par) (r : Int) : Par × ActV := if s.st ≠ 4 then (s, ⟨2, r, 0, 0, 0, z8⟩) else if r = 7 then (.new, .none) else (s, .none)
def leavesE (r : Int) : Bool := r == 80 || r == 88 || r == 93 || r == 94 || r == 95
def escE (s : Par) (r : Int) : Par × ActV :=
  if 32 ≤ r ∧ r ≤ 47 then ({ s with mid := if s.mid ≠ 0 then 255 else r }, .none)
  else if s.mid = 0 ∧ r = 91 then (.inn 2, .none)
  else if s.mid = 0 ∧ leavesE r = true then (.inn 4, .none)
  else if 126 < r ∨ s.mid = 255 then (.new, .none)
  else (.new, ⟨3, r, 0, s.mid, 0, z8⟩)
def digitE (s : Par) (d : Int) : Par :=
  if max s.n 1 ≤ 8 then { s with n := max s.n 1, ns := s.ns.set (max s.n 1 - 1) (min (s.ns.getD (max s.n 1 - 1) 0 * 10 + d) 9999) } else { s with n := max s.n 1 }
def ctlE (s : Par) (r : Int) : Par × ActV :=
  if 64 ≤ r ∧ r ≤ 126 then (.new, ⟨4, r, s.pr, s.mid, min s.n 8, s.ns⟩)
  else if s.mid = 0 ∧ 48 ≤ r ∧ r ≤ 57 then (digitE s (r - 48), .none)
  else if s.mid = 0 ∧ (r = 58 ∨ r = 59) then ({ s with n := min (max s.n 1 + 1) 9 }, .none)
  else if s = .inn 2 ∧ 60 ≤ r ∧ r ≤ 63 then ({ s with pr := r }, .none)
  else if s.mid = 0 ∧ 32 ≤ r ∧ r ≤ 47 then ({ s with mid := r }, .none)
  else (.inn 3, .none)
def otherE (s : Par) (r : Int) : Par × ActV :=
  if s.st = 0 then (s, ⟨1, r, 0, 0, 0, z8⟩)
  else if s.st = 1 then escE s r
  else if s.st = 2 then ctlE s r
  else if s.st = 3 then (if 64 ≤ r ∧ r ≤ 126 then (.new, .none) else (s, .none))
  else (s, .none)
def stepE (s : Par) (r : Int) : Par × ActV :=
  if r = 27 then (.inn 1, .none)
  else if r = 24 ∨ r = 26 then (.new, .none)
  else if 0 ≤ r ∧ r ≤ 31 then obeyedE s r
  else if 32 ≤ r ∧ r ≤ 126 ∨ 160 ≤ r ∧ r ≤ 1114111 then otherE s r
  else (s, .none)
/-- What a parser is at any time. -/
structure Par.ok (s : Par) : Prop where
  st : 0 ≤ s.st ∧ s.st ≤ 4
  pr : 0 ≤ s.pr ∧ s.pr ≤ 255
  mid : 0 ≤ s.mid ∧ s.mid ≤ 255
  n : s.n ≤ 9
  len : s.ns.length = 8
  nums : ∀ x, x ∈ s.ns → 0 ≤ x ∧ x ≤ 9999
  rest : ∀ j, s.n ≤ j → j < 8 → s.ns.getD j 0 = 0
  esc : s.st = 1 → s = ⟨1, 0, s.mid, 0, z8⟩
  plain : s.st ≠ 1 → s.st ≠ 2 → s = .inn s.st
theorem b0 : (0 : Int) ≤ 0 ∧ (0 : Int) ≤ 255 := by decide
theorem z8_in : ∀ x, x ∈ z8 → (0 : Int) ≤ x ∧ x ≤ 9999 := by decide
theorem z8_getD : ∀ j, z8.getD j 0 = 0 := by
  intro j
  rcases Nat.lt_or_ge j 8 with h | h
  · have : j = 0 ∨ j = 1 ∨ j = 2 ∨ j = 3 ∨ j = 4 ∨ j = 5 ∨ j = 6 ∨ j = 7 := by omega
    rcases this with rfl | rfl | rfl | rfl | rfl | rfl | rfl | rfl <;> rfl
  · rw [List.getD_eq_getElem?_getD, List.getElem?_eq_none (by simpa using h)]; rfl
theorem ok_innE (k : Int) (h0 : 0 ≤ k) (h1 : k ≤ 4) : (Par.inn k).ok :=
  ⟨⟨h0, h1⟩, b0, b0, Nat.zero_le 9, rfl, z8_in, fun j _ _ => z8_getD j, fun h => by have h' : k = 1 := h; subst h'; rfl, fun _ _ => rfl⟩
theorem ok_digitE {s : Par} (h : s.ok) (hs : s.st = 2) (d : Int) (h0 : 0 ≤ d) : (digitE s d).ok := by
  have hn := h.n
  unfold digitE
  split
  · rename_i hle
    have hlt : max s.n 1 - 1 < s.ns.length := by rw [h.len]; omega
    refine ⟨h.st, h.pr, h.mid, by show max s.n 1 ≤ 9; omega, by simp [h.len], ?_, ?_, fun e => ?_, fun _ e => absurd hs e⟩
    · intro x hx
      rcases List.mem_or_eq_of_mem_set hx with hx | rfl
      · exact h.nums x hx
      · have : 0 ≤ s.ns.getD (max s.n 1 - 1) 0 := by
          rw [List.getD_eq_getElem?_getD, List.getElem?_eq_getElem hlt]
          exact (h.nums _ (List.getElem_mem hlt)).1
        omega
    · intro j hj hj8
      have hj' : max s.n 1 ≤ j := hj
      show (s.ns.set (max s.n 1 - 1) _).getD j 0 = 0
      rw [List.getD_eq_getElem?_getD, List.getElem?_set_ne (by omega), ← List.getD_eq_getElem?_getD]
      exact h.rest j (by omega) hj8
    · have e' : s.st = 1 := e
      omega
  · refine ⟨h.st, h.pr, h.mid, by show max s.n 1 ≤ 9; omega, h.len, h.nums, fun j hj hj8 => h.rest j (by have hj' : max s.n 1 ≤ j := hj; omega) hj8, fun e => ?_, fun _ e => absurd hs e⟩
    have e' : s.st = 1 := e
    omega
theorem ok_ctlE {s : Par} (h : s.ok) (hs : s.st = 2) (r : Int) : (ctlE s r).1.ok := by
  unfold ctlE
  split
  · exact ok_innE 0 (by decide) (by decide)
  split
  · exact ok_digitE h hs _ (by omega)
  split
  · refine ⟨h.st, h.pr, h.mid, by show min (max s.n 1 + 1) 9 ≤ 9; omega, h.len, h.nums, fun j hj hj8 => h.rest j (by have hj' : min (max s.n 1 + 1) 9 ≤ j := hj; omega) hj8, fun e => ?_, fun _ e => absurd hs e⟩
    have e' : s.st = 1 := e
    omega
  split
  · rename_i _ _ _ h4
    refine ⟨h.st, by show 0 ≤ r ∧ r ≤ 255; omega, h.mid, h.n, h.len, h.nums, h.rest, fun e => ?_, fun _ e => absurd hs e⟩
    have e' : s.st = 1 := e
    omega
  split
  · refine ⟨h.st, h.pr, by show 0 ≤ r ∧ r ≤ 255; omega, h.n, h.len, h.nums, h.rest, fun e => ?_, fun _ e => absurd hs e⟩
    have e' : s.st = 1 := e
    omega
  · exact ok_innE 3 (by decide) (by decide)
theorem ok_escE {s : Par} (h : s.ok) (hs : s.st = 1) (r : Int) : (escE s r).1.ok := by
  have he := h.esc hs
  unfold escE
  split
  · rw [he]
    refine ⟨(show (0 : Int) ≤ 1 ∧ (1 : Int) ≤ 4 by decide), b0, ?_, Nat.zero_le 9, rfl, z8_in, fun j _ _ => z8_getD j, fun _ => rfl, fun e => absurd rfl e⟩
    show 0 ≤ (if s.mid ≠ 0 then (255 : Int) else r) ∧ (if s.mid ≠ 0 then (255 : Int) else r) ≤ 255
    split <;> omega
  split
  · exact ok_innE 2 (by decide) (by decide)
  split
  · exact ok_innE 4 (by decide) (by decide)
  split <;> exact ok_innE 0 (by decide) (by decide)
theorem ok_stepE {s : Par} (h : s.ok) (r : Int) : (stepE s r).1.ok := by
  unfold stepE
  split
  · exact ok_innE 1 (by decide) (by decide)
  split
  · exact ok_innE 0 (by decide) (by decide)
  split
  · unfold obeyedE
    split
    · exact h
    split
    · exact ok_innE 0 (by decide) (by decide)
    · exact h
  split
  · unfold otherE
    split
    · exact h
    split
    · exact ok_escE h (by assumption) r
    split
    · exact ok_ctlE h (by assumption) r
    split
    · split
      · exact ok_innE 0 (by decide) (by decide)
      · exact h
    · exact h
  · exact h
/-- What an act is at any time. -/
structure ActV.ok (a : ActV) : Prop where
  kind : 0 ≤ a.kind ∧ a.kind ≤ 4
  pr : 0 ≤ a.pr ∧ a.pr ≤ 255
  mid : 0 ≤ a.mid ∧ a.mid ≤ 255
  n : a.n ≤ 8
  len : a.ns.length = 8
  nums : ∀ x, x ∈ a.ns → 0 ≤ x ∧ x ≤ 9999
  rest : ∀ j, a.n ≤ j → a.ns.getD j 0 = 0
  only : a.kind ≠ 4 → a.n = 0
theorem ok_actE {k r m : Int} (h0 : 0 ≤ k ∧ k ≤ 4) (hm : 0 ≤ m ∧ m ≤ 255) : (⟨k, r, 0, m, 0, z8⟩ : ActV).ok :=
  ⟨h0, b0, hm, Nat.zero_le 8, rfl, z8_in, fun j _ => z8_getD j, fun _ => rfl⟩
theorem act_stepE {s : Par} (h : s.ok) (r : Int) : (stepE s r).2.ok ∧ ((stepE s r).2.kind ≠ 0 → (stepE s r).2.r = r) ∧ ((stepE s r).2.kind = 0 → (stepE s r).2 = .none) := by
  have hn : (ActV.none).ok := ok_actE (by decide) (by decide)
  have hN : ∀ (P : Prop), (ActV.none).ok ∧ ((ActV.none).kind ≠ 0 → P) ∧ ((ActV.none).kind = 0 → ActV.none = ActV.none) := fun P => ⟨hn, fun e => absurd rfl e, fun _ => rfl⟩
  have hA : ∀ (k m : Int), 1 ≤ k ∧ k ≤ 4 → 0 ≤ m ∧ m ≤ 255 → (⟨k, r, 0, m, 0, z8⟩ : ActV).ok ∧ ((⟨k, r, 0, m, 0, z8⟩ : ActV).kind ≠ 0 → (⟨k, r, 0, m, 0, z8⟩ : ActV).r = r) ∧ ((⟨k, r, 0, m, 0, z8⟩ : ActV).kind = 0 → (⟨k, r, 0, m, 0, z8⟩ : ActV) = .none) :=
    fun k m hk hm => ⟨ok_actE ⟨by omega, hk.2⟩ hm, fun _ => rfl, fun e => absurd (show k = 0 from e) (by omega)⟩
  unfold stepE
  split
  · exact hN _
  split
  · exact hN _
  split
  · unfold obeyedE
    split
    · exact hA 2 0 (by decide) (by decide)
    split <;> exact hN _
  split
  · unfold otherE
    split
    · exact hA 1 0 (by decide) (by decide)
    split
    · unfold escE
      split
      · exact hN _
      split
      · exact hN _
      split
      · exact hN _
      split
      · exact hN _
      · exact hA 3 _ (by decide) h.mid
    split
    · unfold ctlE
      split
      · have hn9 := h.n
        refine ⟨⟨(show (0 : Int) ≤ 4 ∧ (4 : Int) ≤ 4 by decide), h.pr, h.mid, by show min s.n 8 ≤ 8; omega, h.len, h.nums, fun j hj => ?_, fun e => absurd rfl e⟩, fun _ => rfl, fun e => by cases e⟩
        have hj' : min s.n 8 ≤ j := hj
        rcases Nat.lt_or_ge j 8 with h8 | h8
        · exact h.rest j (by omega) h8
        · show s.ns.getD j 0 = 0
          rw [List.getD_eq_getElem?_getD, List.getElem?_eq_none (by rw [h.len]; exact h8)]; rfl
      split
      · exact hN _
      split
      · exact hN _
      split
      · exact hN _
      split <;> exact hN _
    split
    · split <;> exact hN _
    · exact hN _
  · exact hN _
/-- Many characters. -/
def runE (s : Par) : List Int → List ActV × Par
  | [] => ([], s)
  | r :: l => ((if (stepE s r).2.kind ≠ 0 then [(stepE s r).2] else []) ++ (runE (stepE s r).1 l).1, (runE (stepE s r).1 l).2)
theorem runE_append (s : Par) (a b : List Int) : runE s (a ++ b) = ((runE s a).1 ++ (runE (runE s a).2 b).1, (runE (runE s a).2 b).2) := by
  induction a generalizing s with
  | nil => simp [runE]
  | cons r a ih => simp only [List.cons_append, runE, ih, List.append_assoc]
theorem ok_runE {s : Par} (h : s.ok) (l : List Int) : (runE s l).2.ok := by
  induction l generalizing s with
  | nil => exact h
  | cons r l ih => exact ih (ok_stepE h r)
theorem len_runE (s : Par) (l : List Int) : (runE s l).1.length ≤ l.length := by
  induction l generalizing s with
  | nil => exact Nat.le_refl _
  | cons r l ih =>
    have := ih (stepE s r).1
    simp only [runE, List.length_append, List.length_cons]
    split <;> simp <;> omega
theorem acts_runE {s : Par} (h : s.ok) (l : List Int) : ∀ a, a ∈ (runE s l).1 → a.ok := by
  induction l generalizing s with
  | nil => intro a ha; cases ha
  | cons r l ih =>
    intro a ha
    simp only [runE, List.mem_append] at ha
    rcases ha with ha | ha
    · split at ha
      · rw [List.mem_singleton.1 ha]; exact (act_stepE h r).1
      · cases ha
    · exact ih (ok_stepE h r) a ha
theorem runE_one (s : Par) (l : List Int) (i : Nat) (r : Int) (hi : l[i]? = some r) : runE s (l.take (i + 1)) = ((runE s (l.take i)).1 ++ (if (stepE (runE s (l.take i)).2 r).2.kind ≠ 0 then [(stepE (runE s (l.take i)).2 r).2] else []), (stepE (runE s (l.take i)).2 r).1) := by
  rw [List.take_add_one, hi, runE_append]
  simp [runE]
end Go.Proofs.YtgnknliaeoblhabDoor
namespace Go.Proofs.YtgnknliaeoblhabDoor
open Go Go.RowKit

def digs (k : Nat) : List Int := [48 + ((k / 10000 % 10 : Nat) : Int), 48 + ((k / 1000 % 10 : Nat) : Int), 48 + ((k / 100 % 10 : Nat) : Int), 48 + ((k / 10 % 10 : Nat) : Int), 48 + ((k / 1 % 10 : Nat) : Int)]
def capN (k : Nat) : Int := ((min (k % 100000) 9999 : Nat) : Int)
/-- What is written of a number: what parts it from the one ahead, and its digits. -/
def writ (i k : Nat) : List Int := (if 0 < i then [58 + ((k % 2 : Nat) : Int)] else []) ++ digs k
theorem step_digit (n : Nat) (ns : List Int) (d : Nat) (hd : d ≤ 9) : stepE ⟨2, 0, 0, n, ns⟩ (48 + (d : Int)) = (digitE ⟨2, 0, 0, n, ns⟩ (d : Int), .none) := by
  unfold stepE
  rw [if_neg (by omega), if_neg (by omega), if_neg (by omega), if_pos (by omega)]
  unfold otherE
  rw [if_neg (show ¬ (2 : Int) = 0 by decide), if_neg (show ¬ (2 : Int) = 1 by decide), if_pos rfl]
  unfold ctlE
  rw [if_neg (by omega), if_pos (show (0 : Int) = 0 ∧ 48 ≤ 48 + (d : Int) ∧ 48 + (d : Int) ≤ 57 by omega), show 48 + (d : Int) - 48 = (d : Int) by omega]
theorem step_sep (n : Nat) (ns : List Int) (b : Nat) (hb : b ≤ 1) : stepE ⟨2, 0, 0, n, ns⟩ (58 + (b : Int)) = (⟨2, 0, 0, min (max n 1 + 1) 9, ns⟩, .none) := by
  unfold stepE
  rw [if_neg (by omega), if_neg (by omega), if_neg (by omega), if_pos (by omega)]
  unfold otherE
  rw [if_neg (show ¬ (2 : Int) = 0 by decide), if_neg (show ¬ (2 : Int) = 1 by decide), if_pos rfl]
  unfold ctlE
  rw [if_neg (by omega), if_neg (by omega), if_pos (show (0 : Int) = 0 ∧ (58 + (b : Int) = 58 ∨ 58 + (b : Int) = 59) by omega)]
theorem run_quiet {s s' : Par} {r : Int} (l : List Int) (h : stepE s r = (s', .none)) : runE s (r :: l) = runE s' l := by
  simp only [runE, h]
  simp
theorem digit_at (n0 i : Nat) (ns : List Int) (d : Int) (hn : max n0 1 = i + 1) (hi : i < 8) : digitE ⟨2, 0, 0, n0, ns⟩ d = ⟨2, 0, 0, i + 1, ns.set i (min (ns.getD i 0 * 10 + d) 9999)⟩ := by
  unfold digitE
  simp only [hn]
  rw [if_pos (by omega), Nat.add_sub_cancel]
theorem getD_set (ns : List Int) (i : Nat) (v : Int) (h : i < ns.length) : (ns.set i v).getD i 0 = v := by
  rw [List.getD_eq_getElem?_getD, List.getElem?_set_self h]; rfl
theorem run_digs (n0 i : Nat) (ns : List Int) (k : Nat) (hn : max n0 1 = i + 1) (hi : i < 8) (hl : ns.length = 8) (h0 : ns.getD i 0 = 0) : runE ⟨2, 0, 0, n0, ns⟩ (digs k) = ([], ⟨2, 0, 0, i + 1, ns.set i (capN k)⟩) := by
  have hil : i < ns.length := by omega
  have hn1 : max (i + 1) 1 = i + 1 := by omega
  unfold digs
  rw [run_quiet _ (step_digit _ _ _ (by omega)), digit_at n0 i ns _ hn hi]
  rw [run_quiet _ (step_digit _ _ _ (by omega)), digit_at (i + 1) i _ _ hn1 hi, getD_set _ _ _ hil, List.set_set]
  rw [run_quiet _ (step_digit _ _ _ (by omega)), digit_at (i + 1) i _ _ hn1 hi, getD_set _ _ _ hil, List.set_set]
  rw [run_quiet _ (step_digit _ _ _ (by omega)), digit_at (i + 1) i _ _ hn1 hi, getD_set _ _ _ hil, List.set_set]
  rw [run_quiet _ (step_digit _ _ _ (by omega)), digit_at (i + 1) i _ _ hn1 hi, getD_set _ _ _ hil, List.set_set, h0]
  unfold capN
  simp only [runE, Prod.mk.injEq, Par.mk.injEq, true_and]
  congr 1
  omega
theorem run_digs9 (ns : List Int) (k : Nat) : runE ⟨2, 0, 0, 9, ns⟩ (digs k) = ([], ⟨2, 0, 0, 9, ns⟩) := by
  have hd : ∀ d, digitE ⟨2, 0, 0, 9, ns⟩ d = ⟨2, 0, 0, 9, ns⟩ := fun d => by unfold digitE; simp
  unfold digs
  rw [run_quiet _ (step_digit _ _ _ (by omega)), hd]
  rw [run_quiet _ (step_digit _ _ _ (by omega)), hd]
  rw [run_quiet _ (step_digit _ _ _ (by omega)), hd]
  rw [run_quiet _ (step_digit _ _ _ (by omega)), hd]
  rw [run_quiet _ (step_digit _ _ _ (by omega)), hd]
  rfl
/-- A number more. -/
theorem run_writ (i k : Nat) (ns : List Int) (hl : ns.length = 8) (h0 : i < 8 → ns.getD i 0 = 0) : runE ⟨2, 0, 0, min i 9, ns⟩ (writ i k) = ([], ⟨2, 0, 0, min (i + 1) 9, if i < 8 then ns.set i (capN k) else ns⟩) := by
  unfold writ
  rcases Nat.eq_zero_or_pos i with rfl | hp
  · rw [if_neg (by omega), List.nil_append, if_pos (by omega)]
    exact run_digs 0 0 ns k rfl (by omega) hl (h0 (by omega))
  · rw [if_pos hp, List.singleton_append, run_quiet _ (step_sep _ _ _ (by omega))]
    by_cases h8 : i < 8
    · rw [if_pos h8, show min (max (min i 9) 1 + 1) 9 = i + 1 by omega, show min (i + 1) 9 = i + 1 by omega]
      exact run_digs (i + 1) i ns k (by omega) h8 hl (h0 h8)
    · rw [if_neg h8, show min (max (min i 9) 1 + 1) 9 = 9 by omega, show min (i + 1) 9 = 9 by omega]
      exact run_digs9 ns k
/-- What has been written, and what has been put down, behind i numbers. -/
structure Writ (i : Nat) (l ns : List Int) : Prop where
  run : runE (.inn 2) l = ([], ⟨2, 0, 0, min i 9, ns⟩)
  len : ns.length = 8
  rest : ∀ j, i ≤ j → j < 8 → ns.getD j 0 = 0
  nums : ∀ x, x ∈ ns → 0 ≤ x ∧ x ≤ 9999
  size : l.length ≤ i * 6
  are : ∀ x, x ∈ l → 0 ≤ x ∧ x ≤ 127
theorem writ_zero : Writ 0 [] z8 := ⟨rfl, rfl, fun j _ _ => z8_getD j, z8_in, Nat.le_refl _, fun x hx => by cases hx⟩
theorem capN_in (k : Nat) : 0 ≤ capN k ∧ capN k ≤ 9999 := by unfold capN; omega
theorem writ_len (i k : Nat) : (writ i k).length ≤ 6 := by
  unfold writ digs
  split <;> simp
theorem writ_are (i k : Nat) : ∀ x, x ∈ writ i k → 0 ≤ x ∧ x ≤ 127 := by
  intro x hx
  unfold writ digs at hx
  simp only [List.mem_append, List.mem_cons, List.not_mem_nil, or_false] at hx
  rcases hx with hx | hx
  · split at hx
    · have := List.mem_singleton.1 hx; omega
    · cases hx
  · omega
theorem writ_next {i : Nat} {l ns : List Int} (h : Writ i l ns) (k : Nat) : Writ (i + 1) (l ++ writ i k) (if i < 8 then ns.set i (capN k) else ns) := by
  refine ⟨?_, ?_, ?_, ?_, ?_, ?_⟩
  · rw [runE_append, h.run]
    simp only
    rw [run_writ i k ns h.len (fun h8 => h.rest i (Nat.le_refl _) h8)]
    rfl
  · split
    · rw [List.length_set]; exact h.len
    · exact h.len
  · intro j hj hj8
    split
    · rw [List.getD_eq_getElem?_getD, List.getElem?_set_ne (by omega), ← List.getD_eq_getElem?_getD]
      exact h.rest j (by omega) hj8
    · exact h.rest j (by omega) hj8
  · intro x hx
    split at hx
    · rcases List.mem_or_eq_of_mem_set hx with hx | rfl
      · exact h.nums x hx
      · exact capN_in k
    · exact h.nums x hx
  · rw [List.length_append]
    have := h.size
    have := writ_len i k
    omega
  · intro x hx
    rcases List.mem_append.1 hx with hx | hx
    · exact h.are x hx
    · exact writ_are i k x hx
theorem step_end (i : Nat) (ns : List Int) (f : Int) (h0 : 64 ≤ f) (h1 : f ≤ 126) : stepE ⟨2, 0, 0, min i 9, ns⟩ f = (.new, ⟨4, f, 0, 0, min i 8, ns⟩) := by
  unfold stepE
  rw [if_neg (by omega), if_neg (by omega), if_neg (by omega), if_pos (by omega)]
  unfold otherE
  rw [if_neg (show ¬ (2 : Int) = 0 by decide), if_neg (show ¬ (2 : Int) = 1 by decide), if_pos rfl]
  unfold ctlE
  rw [if_pos ⟨h0, h1⟩]
  simp only [Prod.mk.injEq, ActV.mk.injEq, true_and, and_true]
  omega
theorem step_open : stepE .new 27 = (.inn 1, .none) := rfl
theorem step_brack : stepE (.inn 1) 91 = (.inn 2, .none) := by decide
theorem run_open (l : List Int) : runE .new (27 :: 91 :: l) = runE (.inn 2) l := by
  rw [run_quiet _ step_open, run_quiet _ step_brack]
/-- A character that is printed at rest, and left out elsewhere. -/
def plainE (r : Int) : Bool := decide (32 ≤ r) && !(decide (127 ≤ r) && decide (r ≤ 159)) && decide (r ≤ 1114111)
theorem step_print (r : Int) (h : 32 ≤ r ∧ r ≤ 126 ∨ 160 ≤ r ∧ r ≤ 1114111) : stepE .new r = (.new, ⟨1, r, 0, 0, 0, z8⟩) := by
  unfold stepE
  rw [if_neg (by omega), if_neg (by omega), if_neg (by omega), if_pos h]
  rfl
theorem step_left (r : Int) (h : 32 ≤ r ∧ r ≤ 126 ∨ 160 ≤ r ∧ r ≤ 1114111) : stepE (.inn 4) r = (.inn 4, .none) := by
  unfold stepE
  rw [if_neg (by omega), if_neg (by omega), if_neg (by omega), if_pos h]
  rfl
theorem step_bell : stepE (.inn 4) 7 = (.new, .none) := by decide
theorem step_can (s : Par) : stepE s 24 = (.new, .none) := rfl
theorem step_text (r : Int) (h : leavesE r = true) : stepE (.inn 1) r = (.inn 4, .none) := by
  have h' := h
  unfold leavesE at h'
  simp only [Bool.or_eq_true, beq_iff_eq] at h'
  unfold stepE
  rw [if_neg (by omega), if_neg (by omega), if_neg (by omega), if_pos (by omega)]
  show escE (.inn 1) r = _
  unfold escE
  rw [if_neg (by omega), if_neg (by omega), if_pos ⟨rfl, h⟩]
end Go.Proofs.YtgnknliaeoblhabDoor
namespace Go.Proofs.YtgnknliaeoblhabDoor
open Go Go.RowKit

def onN (i : Nat) : Nat := [1, 2, 3, 4, 5, 7].getD i 0
theorem onN_eq (i : Nat) : (onN i : Int) = onW i := by
  unfold onN onW
  match i with
  | 0 | 1 | 2 | 3 | 4 | 5 => rfl
  | i + 6 => rfl
def isOn (a : Int) (i : Nat) : Bool := bits .and .u8 a (bitW i) != 0
/-- The ways that are on, of the first so many. -/
def onsN (a : Int) (k : Nat) : List Nat := (List.range k).flatMap fun i => if isOn a i then [onN i] else []
theorem onsN_succ (a : Int) (k : Nat) : onsN a (k + 1) = onsN a k ++ if isOn a k then [onN k] else [] := by
  unfold onsN
  rw [List.range_succ, List.flatMap_append]
  simp
def colN (x : Nat) (k : Nat) : List Nat := if k = 0 then [] else [x, 5, k]
def setN (a : Int) (f b : Nat) : List Nat := onsN a 6 ++ colN 38 f ++ colN 48 b
/-- A number, with what parts it from the one ahead. -/
def numC (k : Nat) : List UInt8 := 59 :: Lib.decDigits k
def numsC (l : List Nat) : List UInt8 := l.flatMap numC
theorem numsC_append (a b : List Nat) : numsC (a ++ b) = numsC a ++ numsC b := by unfold numsC; rw [List.flatMap_append]
def setC (a : Int) (f b : Nat) : List UInt8 := [27, 91, 48] ++ numsC (setN a f b) ++ [109]
theorem dec5 : Lib.decDigits 5 = [53] := by decide +kernel
theorem dec38 : Lib.decDigits 38 = [51, 56] := by decide +kernel
theorem dec48 : Lib.decDigits 48 = [52, 56] := by decide +kernel
theorem numsC_38 (k : Nat) : numsC [38, 5, k] = [59, 51, 56, 59, 53, 59] ++ Lib.decDigits k := by
  simp [numsC, numC, dec38, dec5]
theorem numsC_48 (k : Nat) : numsC [48, 5, k] = [59, 52, 56, 59, 53, 59] ++ Lib.decDigits k := by
  simp [numsC, numC, dec48, dec5]
theorem dec_len {k : Nat} (h : k < 256) : (Lib.decDigits k).length ≤ 3 := by
  have : ∀ k : Fin 256, (Lib.decDigits k.val).length ≤ 3 := by decide +kernel
  exact this ⟨k, h⟩
theorem dec_small {k : Nat} (h : k < 256) : ∀ x, x ∈ Lib.decDigits k → x.toNat < 128 := by
  have : ∀ k : Fin 256, (Lib.decDigits k.val).all (fun x => decide (x.toNat < 128)) = true := by decide +kernel
  intro x hx
  have := List.all_eq_true.1 (this ⟨k, h⟩) x hx
  simpa using this
/-- A number's digits, by a parser. -/
def toI (l : List UInt8) : List Int := l.map fun b => (b.toNat : Int)
theorem toI_append (a b : List UInt8) : toI (a ++ b) = toI a ++ toI b := List.map_append
theorem run_dec (i : Nat) (ns : List Int) {k : Nat} (hk : k < 256) (hi : i < 8) (hl : ns.length = 8) (h0 : ns.getD i 0 = 0) : runE ⟨2, 0, 0, i + 1, ns⟩ (toI (Lib.decDigits k)) = ([], ⟨2, 0, 0, i + 1, ns.set i k⟩) := by
  have hil : i < ns.length := by omega
  have hn1 : max (i + 1) 1 = i + 1 := by omega
  have hd : ∀ d : Nat, d ≤ 9 → (((UInt8.ofNat (48 + d)).toNat : Nat) : Int) = 48 + (d : Int) := by
    intro d hd
    rw [UInt8.toNat_ofNat']
    omega
  rw [Lib.decDigits]
  split
  · rename_i h
    simp only [toI, List.map_cons, List.map_nil]
    rw [hd k (by omega), run_quiet _ (step_digit _ _ _ (by omega)), digit_at (i + 1) i ns _ hn1 hi, h0]
    simp only [runE]
    rw [show min (0 * 10 + (k : Int)) 9999 = (k : Int) by omega]
  · rename_i h
    rw [Lib.decDigits]
    split
    · rename_i h2
      simp only [toI, List.map_cons, List.map_nil, List.cons_append, List.nil_append]
      rw [hd _ (by omega), hd _ (by omega)]
      rw [run_quiet _ (step_digit _ _ _ (by omega)), digit_at (i + 1) i ns _ hn1 hi]
      rw [run_quiet _ (step_digit _ _ _ (by omega)), digit_at (i + 1) i _ _ hn1 hi, getD_set _ _ _ hil, List.set_set, h0]
      simp only [runE]
      rw [show min (min (0 * 10 + ((k / 10 : Nat) : Int)) 9999 * 10 + ((k % 10 : Nat) : Int)) 9999 = (k : Int) by omega]
    · rename_i h2
      rw [Lib.decDigits, dif_pos (by omega)]
      simp only [toI, List.map_cons, List.map_nil, List.cons_append, List.nil_append]
      rw [hd _ (by omega), hd _ (by omega), hd _ (by omega)]
      rw [run_quiet _ (step_digit _ _ _ (by omega)), digit_at (i + 1) i ns _ hn1 hi]
      rw [run_quiet _ (step_digit _ _ _ (by omega)), digit_at (i + 1) i _ _ hn1 hi, getD_set _ _ _ hil, List.set_set]
      rw [run_quiet _ (step_digit _ _ _ (by omega)), digit_at (i + 1) i _ _ hn1 hi, getD_set _ _ _ hil, List.set_set, h0]
      simp only [runE]
      rw [show min (min (min (0 * 10 + ((k / 10 / 10 : Nat) : Int)) 9999 * 10 + ((k / 10 % 10 : Nat) : Int)) 9999 * 10 + ((k % 10 : Nat) : Int)) 9999 = (k : Int) by omega]
theorem run_dec9 (ns : List Int) {k : Nat} (hk : k < 256) : runE ⟨2, 0, 0, 9, ns⟩ (toI (Lib.decDigits k)) = ([], ⟨2, 0, 0, 9, ns⟩) := by
  have hD : ∀ d, digitE ⟨2, 0, 0, 9, ns⟩ d = ⟨2, 0, 0, 9, ns⟩ := fun d => by unfold digitE; simp
  have hd : ∀ d : Nat, d ≤ 9 → (((UInt8.ofNat (48 + d)).toNat : Nat) : Int) = 48 + (d : Int) := by
    intro d hd
    rw [UInt8.toNat_ofNat']
    omega
  rw [Lib.decDigits]
  split
  · simp only [toI, List.map_cons, List.map_nil]
    rw [hd k (by omega), run_quiet _ (step_digit _ _ _ (by omega)), hD]; rfl
  · rw [Lib.decDigits]
    split
    · simp only [toI, List.map_cons, List.map_nil, List.cons_append, List.nil_append]
      rw [hd _ (by omega), hd _ (by omega), run_quiet _ (step_digit _ _ _ (by omega)), hD, run_quiet _ (step_digit _ _ _ (by omega)), hD]; rfl
    · rw [Lib.decDigits, dif_pos (by omega)]
      simp only [toI, List.map_cons, List.map_nil, List.cons_append, List.nil_append]
      rw [hd _ (by omega), hd _ (by omega), hd _ (by omega), run_quiet _ (step_digit _ _ _ (by omega)), hD, run_quiet _ (step_digit _ _ _ (by omega)), hD, run_quiet _ (step_digit _ _ _ (by omega)), hD]; rfl
/-- Numbers more, behind so many. -/
def addN (ns : List Int) : Nat → List Nat → List Int
  | _, [] => ns
  | i, k :: l => addN (if i < 8 then ns.set i k else ns) (i + 1) l
theorem run_nums : ∀ (l : List Nat) (i : Nat) (ns : List Int), 1 ≤ i → ns.length = 8 → (∀ j, i ≤ j → j < 8 → ns.getD j 0 = 0) → (∀ k, k ∈ l → k < 256) →
    runE ⟨2, 0, 0, min i 9, ns⟩ (toI (numsC l)) = ([], ⟨2, 0, 0, min (i + l.length) 9, addN ns i l⟩)
  | [], i, ns, _, _, _, _ => rfl
  | k :: l, i, ns, h1, hl, h0, hk => by
    have hk0 := hk k (List.mem_cons_self ..)
    have hsep := step_sep (min i 9) ns 1 (by omega)
    rw [show numsC (k :: l) = numC k ++ numsC l from rfl, toI_append, runE_append]
    have hone : runE ⟨2, 0, 0, min i 9, ns⟩ (toI (numC k)) = ([], ⟨2, 0, 0, min (i + 1) 9, if i < 8 then ns.set i k else ns⟩) := by
      show runE _ ((58 + ((1 : Nat) : Int)) :: toI (Lib.decDigits k)) = _
      rw [run_quiet _ hsep]
      by_cases h8 : i < 8
      · rw [if_pos h8, show min (max (min i 9) 1 + 1) 9 = i + 1 by omega, show min (i + 1) 9 = i + 1 by omega]
        exact run_dec i ns hk0 h8 hl (h0 i (Nat.le_refl _) h8)
      · rw [if_neg h8, show min (max (min i 9) 1 + 1) 9 = 9 by omega, show min (i + 1) 9 = 9 by omega]
        exact run_dec9 ns hk0
    rw [hone]
    have hrest := run_nums l (i + 1) (if i < 8 then ns.set i k else ns) (by omega) (by split <;> simp [hl]) (fun j hj hj8 => by
      split
      · rw [List.getD_eq_getElem?_getD, List.getElem?_set_ne (by omega), ← List.getD_eq_getElem?_getD]
        exact h0 j (by omega) hj8
      · exact h0 j (by omega) hj8) (fun x hx => hk x (List.mem_cons_of_mem _ hx))
    simp only
    rw [hrest]
    simp only [List.nil_append, List.length_cons, addN]
    rw [show i + 1 + l.length = i + (l.length + 1) by omega]
theorem addN_len : ∀ (l : List Nat) (i : Nat) (ns : List Int), (addN ns i l).length = ns.length
  | [], _, _ => rfl
  | k :: l, i, ns => by
    unfold addN
    rw [addN_len l]
    split <;> simp
/-- What a parser tells of the characters that set a pen. -/
theorem run_set (a : Int) (f b : Nat) (hk : ∀ k, k ∈ setN a f b → k < 256) : runE .new (toI (setC a f b)) = ([⟨4, 109, 0, 0, min (1 + (setN a f b).length) 8, addN z8 1 (setN a f b)⟩], .new) := by
  have e : toI (setC a f b) = 27 :: 91 :: (48 :: (toI (numsC (setN a f b)) ++ [109])) := by
    unfold setC
    rw [toI_append, toI_append]; rfl
  rw [e, run_open]
  have h0 : stepE (.inn 2) 48 = (⟨2, 0, 0, 1, z8⟩, .none) := by decide
  rw [run_quiet _ h0, runE_append]
  have hr := run_nums (setN a f b) 1 z8 (Nat.le_refl _) rfl (fun j _ _ => z8_getD j) hk
  rw [show (⟨2, 0, 0, 1, z8⟩ : Par) = ⟨2, 0, 0, min 1 9, z8⟩ from rfl, hr]
  simp only [List.nil_append]
  have hend := step_end (1 + (setN a f b).length) (addN z8 1 (setN a f b)) 109 (by decide) (by decide)
  simp only [runE, hend]
  simp
theorem onsN_small (a : Int) : ∀ k, k ∈ onsN a 6 → k ≤ 7 ∧ k ≠ 38 ∧ k ≠ 48 := by
  intro k hk
  unfold onsN at hk
  obtain ⟨i, hi, hk⟩ := List.mem_flatMap.1 hk
  have hi6 : i < 6 := by simpa using hi
  split at hk
  · rw [List.mem_singleton.1 hk]
    rcases bitW_cases i hi6 with rfl | rfl | rfl | rfl | rfl | rfl <;> decide
  · cases hk
theorem setN_small {a : Int} {f b : Nat} (hf : f < 256) (hb : b < 256) : ∀ k, k ∈ setN a f b → k < 256 := by
  intro k hk
  unfold setN colN at hk
  simp only [List.mem_append] at hk
  rcases hk with (hk | hk) | hk
  · have := onsN_small a k hk; omega
  · split at hk
    · cases hk
    · simp at hk; omega
  · split at hk
    · cases hk
    · simp at hk; omega
end Go.Proofs.YtgnknliaeoblhabDoor
namespace Go.Proofs.YtgnknliaeoblhabDoor
open Go Go.RowKit

def toZ (l : List Nat) : List Int := l.map fun k : Nat => (k : Int)
theorem addN_eq : ∀ (l : List Nat) (i : Nat) (p : List Int), p.length = i → i + l.length ≤ 8 → addN (p ++ List.replicate (8 - i) 0) i l = p ++ toZ l ++ List.replicate (8 - (i + l.length)) 0
  | [], i, p, _, _ => by simp [addN, toZ]
  | k :: l, i, p, hp, h8 => by
    have h8' : i + (l.length + 1) ≤ 8 := h8
    unfold addN
    rw [if_pos (by omega)]
    have e : (p ++ List.replicate (8 - i) 0).set i (k : Int) = (p ++ [(k : Int)]) ++ List.replicate (8 - (i + 1)) 0 := by
      obtain ⟨j, hj⟩ : ∃ j, 8 - i = j + 1 := ⟨8 - i - 1, by omega⟩
      rw [List.set_append_right _ _ (by omega), hp, Nat.sub_self, hj, List.replicate_succ, List.set_cons_zero, show 8 - (i + 1) = j by omega]
      simp
    rw [e, addN_eq l (i + 1) (p ++ [(k : Int)]) (by simp [hp]) (by omega)]
    rw [show i + 1 + l.length = i + (k :: l).length by simp; omega]
    simp [toZ]
theorem nums_set (l : List Nat) (h : 1 + l.length ≤ 8) : numsP ((1 + l.length : Nat) : Int) (addN z8 1 l) = 0 :: toZ l := by
  have e := addN_eq l 1 [0] rfl h
  rw [show ([0] : List Int) ++ List.replicate (8 - 1) 0 = z8 from rfl] at e
  rw [e]
  unfold numsP
  rw [if_pos (by omega), show (min (((1 + l.length : Nat) : Int)) 8).toNat = ([0] ++ toZ l).length by simp [toZ]; omega, List.take_left]
  rfl
theorem runP_front : ∀ (m : List Int) (j : Nat) (c : Cel) (t : List Int), m.length ≤ j → (∀ n, n ∈ m → plainN n) → runP j c (m ++ t) = runP (j - m.length) (m.foldl oneP c) t
  | [], j, c, t, _, _ => rfl
  | n :: m, j, c, t, h, hp => by
    obtain ⟨j, rfl⟩ : ∃ i, j = i + 1 := ⟨j - 1, by simp at h; omega⟩
    show runP j (obeyedP c n (m ++ t)).1 (obeyedP c n (m ++ t)).2 = _
    rw [obeyedP_plain (hp n (List.mem_cons_self ..)) c (m ++ t)]
    have := runP_front m j (oneP c n) t (by simp at h; omega) fun x hx => hp x (List.mem_cons_of_mem _ hx)
    rw [this]
    simp
theorem one_way (r x : Int) (k : Nat) (hk : k = 1 ∨ k = 2 ∨ k = 3 ∨ k = 4 ∨ k = 5 ∨ k = 7) : oneP ⟨r, 0, 0, x⟩ k = ⟨r, 0, 0, drawnP x k⟩ := by
  unfold oneP obeyedP
  rw [if_neg (by omega), if_neg (by omega), if_neg (by omega), if_neg (by omega), if_neg (by omega), if_neg (by omega), if_neg (by omega), if_neg (by omega), if_neg (by omega)]
theorem ons_are (a : Int) : ∀ k, k ∈ onsN a 6 → k = 1 ∨ k = 2 ∨ k = 3 ∨ k = 4 ∨ k = 5 ∨ k = 7 := by
  intro k hk
  unfold onsN at hk
  obtain ⟨i, hi, hk⟩ := List.mem_flatMap.1 hk
  have hi6 : i < 6 := by simpa using hi
  split at hk
  · rw [List.mem_singleton.1 hk]
    rcases bitW_cases i hi6 with rfl | rfl | rfl | rfl | rfl | rfl <;> decide
  · cases hk
theorem fold_ways (r : Int) : ∀ (l : List Nat) (x : Int), (∀ k, k ∈ l → k = 1 ∨ k = 2 ∨ k = 3 ∨ k = 4 ∨ k = 5 ∨ k = 7) → (toZ l).foldl oneP ⟨r, 0, 0, x⟩ = ⟨r, 0, 0, l.foldl (fun (x : Int) (k : Nat) => drawnP x (k : Int)) x⟩
  | [], _, _ => rfl
  | k :: l, x, h => by
    show (toZ l).foldl oneP (oneP ⟨r, 0, 0, x⟩ (k : Int)) = _
    rw [one_way r x k (h k (List.mem_cons_self ..))]
    exact fold_ways r l (drawnP x k) fun y hy => h y (List.mem_cons_of_mem _ hy)
theorem fold_ons {a : Int} (h : isU8 a) : (onsN a 6).foldl (fun (x : Int) (k : Nat) => drawnP x (k : Int)) 0 = a % 64 := by
  obtain ⟨n, rfl⟩ := u8_nat h
  have : ∀ n : Fin 256, (onsN ((n.val : Nat) : Int) 6).foldl (fun (x : Int) (k : Nat) => drawnP x (k : Int)) 0 = ((n.val : Nat) : Int) % 64 := by decide +kernel
  exact this n
theorem run_col38 (j : Nat) (c : Cel) (f : Nat) (t : List Int) (hf : 1 ≤ f) (h8 : f < 256) : runP (j + 1) c (38 :: 5 :: (f : Int) :: t) = runP j ⟨c.r, f, c.b, c.a⟩ t := by
  have e : runP (j + 1) c (38 :: 5 :: (f : Int) :: t) = runP j ⟨c.r, if 0 ≤ (f : Int) ∧ (f : Int) ≤ 255 then colP f else c.f, c.b, c.a⟩ t := rfl
  rw [e, if_pos (by omega), show colP (f : Int) = f by unfold colP; omega]
theorem run_col48 (j : Nat) (c : Cel) (f : Nat) (t : List Int) (hf : 1 ≤ f) (h8 : f < 256) : runP (j + 1) c (48 :: 5 :: (f : Int) :: t) = runP j ⟨c.r, c.f, f, c.a⟩ t := by
  have e : runP (j + 1) c (48 :: 5 :: (f : Int) :: t) = runP j ⟨c.r, c.f, if 0 ≤ (f : Int) ∧ (f : Int) ≤ 255 then colP f else c.b, c.a⟩ t := rfl
  rw [e, if_pos (by omega), show colP (f : Int) = f by unfold colP; omega]
theorem run_cols (j : Nat) (r x : Int) (f b : Nat) (hf : f < 256) (hb : b < 256) (hj : 2 ≤ j) : runP j ⟨r, 0, 0, x⟩ (toZ (colN 38 f ++ colN 48 b)) = ⟨r, f, b, x⟩ := by
  obtain ⟨j, rfl⟩ : ∃ i, j = i + 2 := ⟨j - 2, by omega⟩
  unfold colN
  by_cases h1 : f = 0
  · rw [if_pos h1, h1]
    by_cases h2 : b = 0
    · rw [if_pos h2, h2]; rfl
    · rw [if_neg h2]
      show runP (j + 2) ⟨r, 0, 0, x⟩ (48 :: 5 :: (b : Int) :: []) = _
      rw [run_col48 (j + 1) _ b [] (by omega) hb, runP_nil]; rfl
  · rw [if_neg h1]
    by_cases h2 : b = 0
    · rw [if_pos h2, h2]
      show runP (j + 2) ⟨r, 0, 0, x⟩ (38 :: 5 :: (f : Int) :: []) = _
      rw [run_col38 (j + 1) _ f [] (by omega) hf, runP_nil]; rfl
    · rw [if_neg h2]
      show runP (j + 2) ⟨r, 0, 0, x⟩ (38 :: 5 :: (f : Int) :: 48 :: 5 :: (b : Int) :: []) = _
      rw [run_col38 (j + 1) _ f _ (by omega) hf, run_col48 j _ b [] (by omega) hb, runP_nil]
/-- What was set is so. -/
theorem pen_set (c : Cel) {a : Int} {f b : Nat} (ha : isU8 a) (hf : f < 256) (hb : b < 256) (h : 1 + (setN a f b).length ≤ 8) :
    penP c 4 109 0 0 ((1 + (setN a f b).length : Nat) : Int) (addN z8 1 (setN a f b)) = ⟨c.r, f, b, a % 64⟩ := by
  unfold penP
  rw [if_neg (by omega), nums_set _ h]
  have e0 : runP 8 c (0 :: toZ (setN a f b)) = runP 7 ⟨c.r, 0, 0, 0⟩ (toZ (setN a f b)) := rfl
  have hlen : (toZ (onsN a 6)).length ≤ 6 := by
    obtain ⟨n, rfl⟩ := u8_nat ha
    have : ∀ n : Fin 256, (toZ (onsN ((n.val : Nat) : Int) 6)).length ≤ 6 := by decide +kernel
    exact this n
  have hl7 : (onsN a 6).length + (colN 38 f).length + (colN 48 b).length ≤ 7 := by
    unfold setN at h
    simp only [List.length_append] at h
    omega
  have e1 : toZ (setN a f b) = toZ (onsN a 6) ++ toZ (colN 38 f ++ colN 48 b) := by
    unfold setN toZ
    simp
  rw [e0, e1, runP_front _ 7 _ _ (by omega) (fun n hn => by
    obtain ⟨k, hk, rfl⟩ := List.mem_map.1 hn
    have := onsN_small a k hk
    exact ⟨by omega, by omega⟩), fold_ways _ _ _ (ons_are a), fold_ons ha]
  by_cases h5 : (toZ (onsN a 6)).length ≤ 5
  · exact run_cols _ _ _ f b hf hb (by omega)
  · have h6 : (onsN a 6).length = 6 := by simp [toZ] at h5 hlen; omega
    have hf0 : f = 0 := by
      by_cases h1 : f = 0
      · exact h1
      · exfalso; unfold colN at hl7; rw [if_neg h1] at hl7; simp at hl7; omega
    have hb0 : b = 0 := by
      by_cases h1 : b = 0
      · exact h1
      · exfalso; unfold colN at hl7; rw [if_neg h1] at hl7; simp at hl7; omega
    subst hf0 hb0
    rw [show toZ (colN 38 0 ++ colN 48 0) = [] from rfl, runP_nil]
    rfl
theorem pen_r (c : Cel) (n : Int) (ns : List Int) : (penP c 4 109 0 0 n ns).r = c.r := by
  unfold penP
  rw [if_neg (by omega)]
  exact runP_r _ _ _
/-- The bits, counted as the law does. -/
theorem bit_on {a : Int} (h : isU8 a) (i : Nat) (hi : i < 6) : bits .and .u8 (a / 2 ^ i) 1 = if isOn a i then 1 else 0 := by
  obtain ⟨n, rfl⟩ := u8_nat h
  have : ∀ i : Fin 6, ∀ n : Fin 256, bits .and .u8 (((n.val : Nat) : Int) / 2 ^ i.val) 1 = if isOn ((n.val : Nat) : Int) i.val then 1 else 0 := by decide +kernel
  exact this ⟨i, hi⟩ n
theorem and63 {a : Int} (h : isU8 a) : bits .and .u8 a 63 = a % 64 := by
  obtain ⟨n, rfl⟩ := u8_nat h
  have : ∀ n : Fin 256, bits .and .u8 ((n.val : Nat) : Int) 63 = ((n.val : Nat) : Int) % 64 := by decide +kernel
  exact this n
end Go.Proofs.YtgnknliaeoblhabDoor
namespace Go.Proofs.YtgnknliaeoblhabDoor
open Go Go.RowKit

/-- The table of the powers of ten. -/
def Pow10 (w : World) : Prop := Lib.TabIs Tryd.prog w "internal/strconv.uint64pow10" .u64 Lib.pow10Tab
theorem gPow : Tryd.prog.globalNamed "internal/strconv.uint64pow10" = some 1 := by kernel_rfl
theorem Pow10.ext {w w' : World} (h : Pow10 w) (hx : Ext w w') : Pow10 w' := by
  unfold Pow10 Lib.TabIs World.var? at h ⊢
  rw [gPow] at h ⊢
  simp only [Option.bind] at h ⊢
  have hl : 1 < w.heap.size := by
    rcases Nat.lt_or_ge 1 w.heap.size with h' | h'
    · exact h'
    · rw [Array.getElem?_eq_none h'] at h; cases h
  rw [Below.block hx _ hl]
  exact h
end Go.Proofs.YtgnknliaeoblhabDoor
