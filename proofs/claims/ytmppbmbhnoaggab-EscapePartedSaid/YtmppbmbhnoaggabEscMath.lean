/- Words of no program: a parser of characters and its acts (chapter 7), as functions of lists. -/
import Derived.WalkKit
namespace Go.Proofs.Ytmppbmbhnoaggab
open Go Go.RowKit

abbrev z8 : List Int := [0, 0, 0, 0, 0, 0, 0, 0]
/-- An act. -/
structure ActV where
  kind : Int
  r : Int
  pr : Int
  mid : Int
  n : Nat
  ns : List Int
  deriving DecidableEq
abbrev ActV.none : ActV := ⟨0, 0, 0, 0, 0, z8⟩
/-- A parser. -/
structure Par where
  st : Int
  pr : Int
  mid : Int
  n : Nat
  ns : List Int
  deriving DecidableEq
abbrev Par.inn (k : Int) : Par := ⟨k, 0, 0, 0, z8⟩
abbrev Par.new : Par := .inn 0
def obeyedE (s : Par) (r : Int) : Par × ActV := if s.st ≠ 4 then (s, ⟨2, r, 0, 0, 0, z8⟩) else if r = 7 then (.new, .none) else (s, .none)
def leavesE (r : Int) : Bool := r == 80 || r == 88 || r == 93 || r == 94 || r == 95
def escE (s : Par) (r : Int) : Par × ActV :=
  if 32 ≤ r ∧ r ≤ 47 then ({ s with mid := if s.mid ≠ 0 then 255 else r }, .none)
  else if s.mid = 0 ∧ r = 91 then (.inn 2, .none)
  else if s.mid = 0 ∧ leavesE r = true then (.inn 4, .none)
  else if 126 < r ∨ s.mid = 255 then (.new, .none)
  else (.new, ⟨3, r, 0, s.mid, 0, z8⟩)
def digitE (s : Par) (d : Int) : Par :=
  if max s.n 1 ≤ 8 then { s with n := max s.n 1, ns := s.ns.set (max s.n 1 - 1) (min (s.ns.getD (max s.n 1 - 1) 0 * 10 + d) 9999) } else { s with n := max s.n 1 }
def ctlE (s : Par) (r : Int) : Par × ActV :=
  if 64 ≤ r ∧ r ≤ 126 then (.new, ⟨4, r, s.pr, s.mid, min s.n 8, s.ns⟩)
  else if s.mid = 0 ∧ 48 ≤ r ∧ r ≤ 57 then (digitE s (r - 48), .none)
  else if s.mid = 0 ∧ (r = 58 ∨ r = 59) then ({ s with n := min (max s.n 1 + 1) 9 }, .none)
  else if s = .inn 2 ∧ 60 ≤ r ∧ r ≤ 63 then ({ s with pr := r }, .none)
  else if s.mid = 0 ∧ 32 ≤ r ∧ r ≤ 47 then ({ s with mid := r }, .none)
  else (.inn 3, .none)
def otherE (s : Par) (r : Int) : Par × ActV :=
  if s.st = 0 then (s, ⟨1, r, 0, 0, 0, z8⟩)
  else if s.st = 1 then escE s r
  else if s.st = 2 then ctlE s r
  else if s.st = 3 then (if 64 ≤ r ∧ r ≤ 126 then (.new, .none) else (s, .none))
  else (s, .none)
def stepE (s : Par) (r : Int) : Par × ActV :=
  if r = 27 then (.inn 1, .none)
  else if r = 24 ∨ r = 26 then (.new, .none)
  else if 0 ≤ r ∧ r ≤ 31 then obeyedE s r
  else if 32 ≤ r ∧ r ≤ 126 ∨ 160 ≤ r ∧ r ≤ 1114111 then otherE s r
  else (s, .none)
/-- What a parser is at any time. -/
structure Par.ok (s : Par) : Prop where
  st : 0 ≤ s.st ∧ s.st ≤ 4
  pr : 0 ≤ s.pr ∧ s.pr ≤ 255
  mid : 0 ≤ s.mid ∧ s.mid ≤ 255
  n : s.n ≤ 9
  len : s.ns.length = 8
  nums : ∀ x, x ∈ s.ns → 0 ≤ x ∧ x ≤ 9999
  rest : ∀ j, s.n ≤ j → j < 8 → s.ns.getD j 0 = 0
  esc : s.st = 1 → s = ⟨1, 0, s.mid, 0, z8⟩
  plain : s.st ≠ 1 → s.st ≠ 2 → s = .inn s.st
theorem b0 : (0 : Int) ≤ 0 ∧ (0 : Int) ≤ 255 := by decide
theorem z8_in : ∀ x, x ∈ z8 → (0 : Int) ≤ x ∧ x ≤ 9999 := by decide
theorem z8_getD : ∀ j, z8.getD j 0 = 0 := by
  intro j
  rcases Nat.lt_or_ge j 8 with h | h
  · have : j = 0 ∨ j = 1 ∨ j = 2 ∨ j = 3 ∨ j = 4 ∨ j = 5 ∨ j = 6 ∨ j = 7 := by omega
    rcases this with rfl | rfl | rfl | rfl | rfl | rfl | rfl | rfl <;> rfl
  · rw [List.getD_eq_getElem?_getD, List.getElem?_eq_none (by simpa using h)]; rfl
theorem ok_innE (k : Int) (h0 : 0 ≤ k) (h1 : k ≤ 4) : (Par.inn k).ok :=
  ⟨⟨h0, h1⟩, b0, b0, Nat.zero_le 9, rfl, z8_in, fun j _ _ => z8_getD j, fun h => by have h' : k = 1 := h; subst h'; rfl, fun _ _ => rfl⟩
theorem ok_digitE {s : Par} (h : s.ok) (hs : s.st = 2) (d : Int) (h0 : 0 ≤ d) : (digitE s d).ok := by
  have hn := h.n
  unfold digitE
  split
  · rename_i hle
    have hlt : max s.n 1 - 1 < s.ns.length := by rw [h.len]; omega
    refine ⟨h.st, h.pr, h.mid, by show max s.n 1 ≤ 9; omega, by simp [h.len], ?_, ?_, fun e => ?_, fun _ e => absurd hs e⟩
    · intro x hx
      rcases List.mem_or_eq_of_mem_set hx with hx | rfl
      · exact h.nums x hx
      · have : 0 ≤ s.ns.getD (max s.n 1 - 1) 0 := by
          rw [List.getD_eq_getElem?_getD, List.getElem?_eq_getElem hlt]
          exact (h.nums _ (List.getElem_mem hlt)).1
        omega
    · intro j hj hj8
      have hj' : max s.n 1 ≤ j := hj
      show (s.ns.set (max s.n 1 - 1) _).getD j 0 = 0
      rw [List.getD_eq_getElem?_getD, List.getElem?_set_ne (by omega), ← List.getD_eq_getElem?_getD]
      exact h.rest j (by omega) hj8
    · have e' : s.st = 1 := e
      omega
  · refine ⟨h.st, h.pr, h.mid, by show max s.n 1 ≤ 9; omega, h.len, h.nums, fun j hj hj8 => h.rest j (by have hj' : max s.n 1 ≤ j := hj; omega) hj8, fun e => ?_, fun _ e => absurd hs e⟩
    have e' : s.st = 1 := e
    omega
theorem ok_ctlE {s : Par} (h : s.ok) (hs : s.st = 2) (r : Int) : (ctlE s r).1.ok := by
  unfold ctlE
  split
  · exact ok_innE 0 (by decide) (by decide)
  split
  · exact ok_digitE h hs _ (by omega)
  split
  · refine ⟨h.st, h.pr, h.mid, by show min (max s.n 1 + 1) 9 ≤ 9; omega, h.len, h.nums, fun j hj hj8 => h.rest j (by have hj' : min (max s.n 1 + 1) 9 ≤ j := hj; omega) hj8, fun e => ?_, fun _ e => absurd hs e⟩
    have e' : s.st = 1 := e
    omega
  split
  · rename_i _ _ _ h4
    refine ⟨h.st, by show 0 ≤ r ∧ r ≤ 255; omega, h.mid, h.n, h.len, h.nums, h.rest, fun e => ?_, fun _ e => absurd hs e⟩
    have e' : s.st = 1 := e
    omega
  split
  · refine ⟨h.st, h.pr, by show 0 ≤ r ∧ r ≤ 255; omega, h.n, h.len, h.nums, h.rest, fun e => ?_, fun _ e => absurd hs e⟩
    have e' : s.st = 1 := e
    omega
  · exact ok_innE 3 (by decide) (by decide)
theorem ok_escE {s : Par} (h : s.ok) (hs : s.st = 1) (r : Int) : (escE s r).1.ok := by
  have he := h.esc hs
  unfold escE
  split
  · rw [he]
    refine ⟨(show (0 : Int) ≤ 1 ∧ (1 : Int) ≤ 4 by decide), b0, ?_, Nat.zero_le 9, rfl, z8_in, fun j _ _ => z8_getD j, fun _ => rfl, fun e => absurd rfl e⟩
    show 0 ≤ (if s.mid ≠ 0 then (255 : Int) else r) ∧ (if s.mid ≠ 0 then (255 : Int) else r) ≤ 255
    split <;> omega
  split
  · exact ok_innE 2 (by decide) (by decide)
  split
  · exact ok_innE 4 (by decide) (by decide)
  split <;> exact ok_innE 0 (by decide) (by decide)
theorem ok_stepE {s : Par} (h : s.ok) (r : Int) : (stepE s r).1.ok := by
  unfold stepE
  split
  · exact ok_innE 1 (by decide) (by decide)
  split
  · exact ok_innE 0 (by decide) (by decide)
  split
  · unfold obeyedE
    split
    · exact h
    split
    · exact ok_innE 0 (by decide) (by decide)
    · exact h
  split
  · unfold otherE
    split
    · exact h
    split
    · exact ok_escE h (by assumption) r
    split
    · exact ok_ctlE h (by assumption) r
    split
    · split
      · exact ok_innE 0 (by decide) (by decide)
      · exact h
    · exact h
  · exact h
/-- What an act is at any time. -/
structure ActV.ok (a : ActV) : Prop where
  kind : 0 ≤ a.kind ∧ a.kind ≤ 4
  pr : 0 ≤ a.pr ∧ a.pr ≤ 255
  mid : 0 ≤ a.mid ∧ a.mid ≤ 255
  n : a.n ≤ 8
  len : a.ns.length = 8
  nums : ∀ x, x ∈ a.ns → 0 ≤ x ∧ x ≤ 9999
  rest : ∀ j, a.n ≤ j → a.ns.getD j 0 = 0
  only : a.kind ≠ 4 → a.n = 0
theorem ok_actE {k r m : Int} (h0 : 0 ≤ k ∧ k ≤ 4) (hm : 0 ≤ m ∧ m ≤ 255) : (⟨k, r, 0, m, 0, z8⟩ : ActV).ok :=
  ⟨h0, b0, hm, Nat.zero_le 8, rfl, z8_in, fun j _ => z8_getD j, fun _ => rfl⟩
theorem act_stepE {s : Par} (h : s.ok) (r : Int) : (stepE s r).2.ok ∧ ((stepE s r).2.kind ≠ 0 → (stepE s r).2.r = r) ∧ ((stepE s r).2.kind = 0 → (stepE s r).2 = .none) := by
  have hn : (ActV.none).ok := ok_actE (by decide) (by decide)
  have hN : ∀ (P : Prop), (ActV.none).ok ∧ ((ActV.none).kind ≠ 0 → P) ∧ ((ActV.none).kind = 0 → ActV.none = ActV.none) := fun P => ⟨hn, fun e => absurd rfl e, fun _ => rfl⟩
  have hA : ∀ (k m : Int), 1 ≤ k ∧ k ≤ 4 → 0 ≤ m ∧ m ≤ 255 → (⟨k, r, 0, m, 0, z8⟩ : ActV).ok ∧ ((⟨k, r, 0, m, 0, z8⟩ : ActV).kind ≠ 0 → (⟨k, r, 0, m, 0, z8⟩ : ActV).r = r) ∧ ((⟨k, r, 0, m, 0, z8⟩ : ActV).kind = 0 → (⟨k, r, 0, m, 0, z8⟩ : ActV) = .none) :=
    fun k m hk hm => ⟨ok_actE ⟨by omega, hk.2⟩ hm, fun _ => rfl, fun e => absurd (show k = 0 from e) (by omega)⟩
  unfold stepE
  split
  · exact hN _
  split
  · exact hN _
  split
  · unfold obeyedE
    split
    · exact hA 2 0 (by decide) (by decide)
    split <;> exact hN _
  split
  · unfold otherE
    split
    · exact hA 1 0 (by decide) (by decide)
    split
    · unfold escE
      split
      · exact hN _
      split
      · exact hN _
      split
      · exact hN _
      split
      · exact hN _
      · exact hA 3 _ (by decide) h.mid
    split
    · unfold ctlE
      split
      · have hn9 := h.n
        refine ⟨⟨(show (0 : Int) ≤ 4 ∧ (4 : Int) ≤ 4 by decide), h.pr, h.mid, by show min s.n 8 ≤ 8; omega, h.len, h.nums, fun j hj => ?_, fun e => absurd rfl e⟩, fun _ => rfl, fun e => by cases e⟩
        have hj' : min s.n 8 ≤ j := hj
        rcases Nat.lt_or_ge j 8 with h8 | h8
        · exact h.rest j (by omega) h8
        · show s.ns.getD j 0 = 0
          rw [List.getD_eq_getElem?_getD, List.getElem?_eq_none (by rw [h.len]; exact h8)]; rfl
      split
      · exact hN _
      split
      · exact hN _
      split
      · exact hN _
      split <;> exact hN _
    split
    · split <;> exact hN _
    · exact hN _
  · exact hN _
/-- Many characters. -/
def runE (s : Par) : List Int → List ActV × Par
  | [] => ([], s)
  | r :: l => ((if (stepE s r).2.kind ≠ 0 then [(stepE s r).2] else []) ++ (runE (stepE s r).1 l).1, (runE (stepE s r).1 l).2)
theorem runE_append (s : Par) (a b : List Int) : runE s (a ++ b) = ((runE s a).1 ++ (runE (runE s a).2 b).1, (runE (runE s a).2 b).2) := by
  induction a generalizing s with
  | nil => simp [runE]
  | cons r a ih => simp only [List.cons_append, runE, ih, List.append_assoc]
theorem ok_runE {s : Par} (h : s.ok) (l : List Int) : (runE s l).2.ok := by
  induction l generalizing s with
  | nil => exact h
  | cons r l ih => exact ih (ok_stepE h r)
theorem len_runE (s : Par) (l : List Int) : (runE s l).1.length ≤ l.length := by
  induction l generalizing s with
  | nil => exact Nat.le_refl _
  | cons r l ih =>
    have := ih (stepE s r).1
    simp only [runE, List.length_append, List.length_cons]
    split <;> simp <;> omega
theorem acts_runE {s : Par} (h : s.ok) (l : List Int) : ∀ a, a ∈ (runE s l).1 → a.ok := by
  induction l generalizing s with
  | nil => intro a ha; cases ha
  | cons r l ih =>
    intro a ha
    simp only [runE, List.mem_append] at ha
    rcases ha with ha | ha
    · split at ha
      · rw [List.mem_singleton.1 ha]; exact (act_stepE h r).1
      · cases ha
    · exact ih (ok_stepE h r) a ha
theorem runE_one (s : Par) (l : List Int) (i : Nat) (r : Int) (hi : l[i]? = some r) : runE s (l.take (i + 1)) = ((runE s (l.take i)).1 ++ (if (stepE (runE s (l.take i)).2 r).2.kind ≠ 0 then [(stepE (runE s (l.take i)).2 r).2] else []), (stepE (runE s (l.take i)).2 r).1) := by
  rw [List.take_add_one, hi, runE_append]
  simp [runE]
end Go.Proofs.Ytmppbmbhnoaggab
