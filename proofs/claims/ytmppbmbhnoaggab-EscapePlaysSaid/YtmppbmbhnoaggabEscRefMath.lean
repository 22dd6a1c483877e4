/- Words of no program: the document's parser of characters, held against the other. -/
import Derived.Test.YtmppbmbhnoaggabEscMath
namespace Go.Proofs.Ytmppbmbhnoaggab
open Go Go.RowKit

structure RPar where
  inn : Int
  a : ActV
  any : Bool
def refEscE (t : RPar) (r : Int) : RPar × ActV :=
  if r ≤ 47 then ({ t with a := { t.a with mid := if t.a.mid = 0 then r else 255 } }, .none)
  else if t.a.mid = 0 ∧ r = 91 then ({ t with inn := 2 }, .none)
  else if t.a.mid = 0 ∧ (r = 80 ∨ r = 88 ∨ 93 ≤ r ∧ r ≤ 95) then ({ t with inn := 4 }, .none)
  else if 126 < r ∨ t.a.mid = 255 then ({ t with inn := 0 }, .none)
  else ({ t with inn := 0 }, ⟨3, r, 0, t.a.mid, 0, z8⟩)
def refDigitE (a : ActV) (d : Int) : ActV :=
  if max a.n 1 ≤ 8 then { a with n := max a.n 1, ns := a.ns.set (max a.n 1 - 1) (min (a.ns.getD (max a.n 1 - 1) 0 * 10 + d) 9999) } else { a with n := max a.n 1 }
def refCsiE (t : RPar) (r : Int) : RPar × ActV :=
  if 48 ≤ r ∧ r ≤ 57 ∧ t.a.mid = 0 then (⟨t.inn, refDigitE t.a (r - 48), true⟩, .none)
  else if (r = 58 ∨ r = 59) ∧ t.a.mid = 0 then (⟨t.inn, { t.a with n := min (max t.a.n 1 + 1) 9 }, true⟩, .none)
  else if 60 ≤ r ∧ r ≤ 63 ∧ t.any = false then (⟨t.inn, { t.a with pr := r }, true⟩, .none)
  else if r ≤ 47 ∧ t.a.mid = 0 then (⟨t.inn, { t.a with mid := r }, true⟩, .none)
  else if 64 ≤ r ∧ r ≤ 126 then (⟨0, t.a, true⟩, { t.a with kind := 4, r := r, n := min t.a.n 8 })
  else (⟨3, t.a, true⟩, .none)
def refStepE (t : RPar) (r : Int) : RPar × ActV :=
  if r = 27 then (⟨1, .none, false⟩, .none)
  else if r = 24 ∨ r = 26 then ({ t with inn := 0 }, .none)
  else if r < 0 ∨ 1114111 < r ∨ 127 ≤ r ∧ r ≤ 159 then (t, .none)
  else if r < 32 then (if t.inn ≠ 4 then (t, ⟨2, r, 0, 0, 0, z8⟩) else if r = 7 then ({ t with inn := 0 }, .none) else (t, .none))
  else if t.inn = 0 then (t, ⟨1, r, 0, 0, 0, z8⟩)
  else if t.inn = 1 then refEscE t r
  else if t.inn = 2 then refCsiE t r
  else if t.inn = 3 then (if 64 ≤ r ∧ r ≤ 126 then ({ t with inn := 0 }, .none) else (t, .none))
  else (t, .none)
/-- The two are in the same. -/
structure Rel (s : Par) (t : RPar) : Prop where
  inn : t.inn = s.st
  esc : s.st = 1 → t.a = ⟨0, 0, 0, s.mid, 0, z8⟩ ∧ t.any = false
  csi : s.st = 2 → t.a = ⟨0, 0, s.pr, s.mid, s.n, s.ns⟩ ∧ t.any = decide (s ≠ .inn 2)
/-- What the document's parser is at any time. -/
structure RPar.ok (t : RPar) : Prop where
  inn : 0 ≤ t.inn ∧ t.inn ≤ 4
  mid : 0 ≤ t.a.mid ∧ t.a.mid ≤ 255
  n : t.a.n ≤ 9
  len : t.a.ns.length = 8
  nums : ∀ x, x ∈ t.a.ns → 0 ≤ x ∧ x ≤ 9999
theorem rel_inn (k : Int) (t : RPar) (h : t.inn = k) (h1 : k ≠ 1) (h2 : k ≠ 2) : Rel (.inn k) t := ⟨h, fun e => absurd e h1, fun e => absurd e h2⟩
theorem rel_same {s : Par} {t u : RPar} (h : Rel s t) (hu : u.inn = t.inn) (ha : u.a = t.a) (hy : u.any = t.any) : Rel s u :=
  ⟨hu.trans h.inn, fun e => ⟨ha.trans (h.esc e).1, hy.trans (h.esc e).2⟩, fun e => ⟨ha.trans (h.csi e).1, hy.trans (h.csi e).2⟩⟩
theorem leaves_iff (r : Int) : leavesE r = true ↔ (r = 80 ∨ r = 88 ∨ 93 ≤ r ∧ r ≤ 95) := by
  unfold leavesE
  simp only [Bool.or_eq_true, beq_iff_eq]
  omega
theorem rel_esc {s : Par} {t : RPar} (hs : s.ok) (h : Rel s t) (h1 : s.st = 1) (r : Int) (hr : 32 ≤ r) : (refEscE t r).2 = (escE s r).2 ∧ Rel (escE s r).1 (refEscE t r).1 := by
  obtain ⟨ha, hy⟩ := h.esc h1
  have hm : t.a.mid = s.mid := by rw [ha]
  have hin : t.inn = 1 := h.inn.trans h1
  have he := hs.esc h1
  unfold refEscE escE
  rw [hm]
  by_cases c1 : r ≤ 47
  · rw [if_pos c1, if_pos (show 32 ≤ r ∧ r ≤ 47 from ⟨hr, c1⟩)]
    refine ⟨rfl, h.inn, fun _ => ⟨?_, hy⟩, fun e => ?_⟩
    · show (ActV.mk _ _ _ _ _ _) = _
      rw [ha]
      simp only [ActV.mk.injEq, true_and, and_true]
      by_cases c : s.mid = 0
      · rw [if_pos c, if_neg (by simpa using c)]
      · rw [if_neg c, if_pos c]
    · have e' : s.st = 2 := e
      omega
  rw [if_neg c1, if_neg (show ¬ (32 ≤ r ∧ r ≤ 47) from fun c => c1 c.2)]
  by_cases c2 : s.mid = 0 ∧ r = 91
  · rw [if_pos c2, if_pos c2]
    refine ⟨rfl, rfl, fun e => ?_, fun _ => ⟨?_, ?_⟩⟩
    · have e' : (2 : Int) = 1 := e
      omega
    · show t.a = _
      rw [ha, c2.1]
    · show t.any = _
      rw [hy]; rfl
  rw [if_neg c2, if_neg c2]
  by_cases c3 : s.mid = 0 ∧ leavesE r = true
  · rw [if_pos c3, if_pos (by rw [← leaves_iff]; exact c3)]
    exact ⟨rfl, rel_inn 4 _ rfl (by decide) (by decide)⟩
  rw [if_neg c3, if_neg (by rw [← leaves_iff]; exact c3)]
  split
  · exact ⟨rfl, rel_inn 0 _ rfl (by decide) (by decide)⟩
  · exact ⟨rfl, rel_inn 0 _ rfl (by decide) (by decide)⟩
theorem ne_inn_n {s : Par} (h : s.n ≠ 0) : (true : Bool) = decide (s ≠ .inn 2) := by
  rw [eq_comm, decide_eq_true_iff]
  intro e
  rw [e] at h
  exact h rfl
theorem rel_csi {s : Par} {t : RPar} (h : Rel s t) (h2 : s.st = 2) (r : Int) (hr : 32 ≤ r) : (refCsiE t r).2 = (ctlE s r).2 ∧ Rel (ctlE s r).1 (refCsiE t r).1 := by
  obtain ⟨ha, hy⟩ := h.csi h2
  have hin : t.inn = 2 := h.inn.trans h2
  have hno1 : ∀ {P : Prop}, s.st = 1 → P := fun e => by omega
  obtain ⟨i, a, y⟩ := t
  simp only at ha hy hin
  subst ha hin
  unfold refCsiE ctlE
  simp only
  by_cases c1 : 64 ≤ r ∧ r ≤ 126
  · rw [if_neg (by omega), if_neg (by omega), if_neg (by omega), if_neg (by omega), if_pos c1, if_pos c1]
    exact ⟨rfl, rel_inn 0 _ rfl (by decide) (by decide)⟩
  rw [if_neg c1, if_neg c1]
  by_cases c2 : s.mid = 0 ∧ 48 ≤ r ∧ r ≤ 57
  · rw [if_pos ⟨c2.2.1, c2.2.2, c2.1⟩, if_pos c2]
    refine ⟨rfl, ?_⟩
    unfold refDigitE digitE
    simp only
    split
    · exact ⟨h2.symm, fun e => hno1 e, fun _ => ⟨rfl, ne_inn_n (s := ⟨s.st, s.pr, s.mid, max s.n 1, _⟩) (by show max s.n 1 ≠ 0; omega)⟩⟩
    · exact ⟨h2.symm, fun e => hno1 e, fun _ => ⟨rfl, ne_inn_n (s := ⟨s.st, s.pr, s.mid, max s.n 1, _⟩) (by show max s.n 1 ≠ 0; omega)⟩⟩
  rw [if_neg (fun c => c2 ⟨c.2.2, c.1, c.2.1⟩), if_neg c2]
  by_cases c3 : s.mid = 0 ∧ (r = 58 ∨ r = 59)
  · rw [if_pos ⟨c3.2, c3.1⟩, if_pos c3]
    exact ⟨rfl, h2.symm, fun e => hno1 e, fun _ => ⟨rfl, ne_inn_n (s := ⟨s.st, s.pr, s.mid, min (max s.n 1 + 1) 9, _⟩) (by show min (max s.n 1 + 1) 9 ≠ 0; omega)⟩⟩
  rw [if_neg (fun c => c3 ⟨c.2, c.1⟩), if_neg c3]
  by_cases c4 : s = .inn 2 ∧ 60 ≤ r ∧ r ≤ 63
  · rw [if_pos ⟨c4.2.1, c4.2.2, by rw [hy, c4.1]; rfl⟩, if_pos c4]
    refine ⟨rfl, h2.symm, fun e => hno1 e, fun _ => ⟨rfl, ?_⟩⟩
    rw [eq_comm, decide_eq_true_iff]
    intro e
    have e' : r = 0 := congrArg Par.pr e
    omega
  rw [if_neg (fun c => c4 ⟨by have h5 := c.2.2; rw [hy, decide_eq_false_iff_not] at h5; exact Classical.not_not.1 h5, c.1, c.2.1⟩), if_neg c4]
  by_cases c5 : s.mid = 0 ∧ 32 ≤ r ∧ r ≤ 47
  · rw [if_pos ⟨c5.2.2, c5.1⟩, if_pos c5]
    refine ⟨rfl, h2.symm, fun e => hno1 e, fun _ => ⟨rfl, ?_⟩⟩
    rw [eq_comm, decide_eq_true_iff]
    intro e
    have e' : r = 0 := congrArg Par.mid e
    omega
  rw [if_neg (fun c => c5 ⟨c.2, hr, c.1⟩), if_neg c5]
  exact ⟨rfl, rel_inn 3 _ rfl (by decide) (by decide)⟩
theorem rel_step {s : Par} {t : RPar} (hs : s.ok) (h : Rel s t) (r : Int) : (refStepE t r).2 = (stepE s r).2 ∧ Rel (stepE s r).1 (refStepE t r).1 := by
  have hin := h.inn
  unfold refStepE stepE
  by_cases c1 : r = 27
  · rw [if_pos c1, if_pos c1]
    exact ⟨rfl, rfl, fun _ => ⟨rfl, rfl⟩, fun e => by have e' : (1 : Int) = 2 := e; omega⟩
  rw [if_neg c1, if_neg c1]
  by_cases c2 : r = 24 ∨ r = 26
  · rw [if_pos c2, if_pos c2]
    exact ⟨rfl, rel_inn 0 _ rfl (by decide) (by decide)⟩
  rw [if_neg c2, if_neg c2]
  by_cases c3 : 0 ≤ r ∧ r ≤ 31
  · rw [if_neg (show ¬ (r < 0 ∨ 1114111 < r ∨ 127 ≤ r ∧ r ≤ 159) by omega), if_pos (show r < 32 by omega), if_pos c3]
    unfold obeyedE
    rw [hin]
    split
    · exact ⟨rfl, h⟩
    split
    · exact ⟨rfl, rel_inn 0 _ rfl (by decide) (by decide)⟩
    · exact ⟨rfl, h⟩
  rw [if_neg c3]
  by_cases c4 : 32 ≤ r ∧ r ≤ 126 ∨ 160 ≤ r ∧ r ≤ 1114111
  · rw [if_neg (show ¬ (r < 0 ∨ 1114111 < r ∨ 127 ≤ r ∧ r ≤ 159) by omega), if_neg (show ¬ r < 32 by omega), if_pos c4]
    unfold otherE
    rw [hin]
    by_cases d0 : s.st = 0
    · rw [if_pos d0, if_pos d0]; exact ⟨rfl, h⟩
    rw [if_neg d0, if_neg d0]
    by_cases d1 : s.st = 1
    · rw [if_pos d1, if_pos d1]; exact rel_esc hs h d1 r (by omega)
    rw [if_neg d1, if_neg d1]
    by_cases d2 : s.st = 2
    · rw [if_pos d2, if_pos d2]; exact rel_csi h d2 r (by omega)
    rw [if_neg d2, if_neg d2]
    by_cases d3 : s.st = 3
    · rw [if_pos d3, if_pos d3]
      split
      · exact ⟨rfl, rel_inn 0 _ rfl (by decide) (by decide)⟩
      · exact ⟨rfl, h⟩
    rw [if_neg d3, if_neg d3]
    exact ⟨rfl, h⟩
  rw [if_neg c4, if_pos (show r < 0 ∨ 1114111 < r ∨ 127 ≤ r ∧ r ≤ 159 by omega)]
  exact ⟨rfl, h⟩
theorem okR_digit {a : ActV} (d : Int) (hd : 0 ≤ d) (h4 : a.ns.length = 8) (h5 : ∀ x, x ∈ a.ns → 0 ≤ x ∧ x ≤ 9999) (h3 : a.n ≤ 9) :
    (refDigitE a d).n ≤ 9 ∧ (refDigitE a d).ns.length = 8 ∧ (refDigitE a d).mid = a.mid ∧ ∀ x, x ∈ (refDigitE a d).ns → 0 ≤ x ∧ x ≤ 9999 := by
  unfold refDigitE
  split
  · have hlt : max a.n 1 - 1 < a.ns.length := by omega
    refine ⟨by show max a.n 1 ≤ 9; omega, by simp [h4], rfl, fun x hx => ?_⟩
    rcases List.mem_or_eq_of_mem_set hx with hx | rfl
    · exact h5 x hx
    · have : 0 ≤ a.ns.getD (max a.n 1 - 1) 0 := by
        rw [List.getD_eq_getElem?_getD, List.getElem?_eq_getElem hlt]
        exact (h5 _ (List.getElem_mem hlt)).1
      omega
  · exact ⟨by show max a.n 1 ≤ 9; omega, h4, rfl, h5⟩
theorem okR_step {t : RPar} (h : t.ok) (r : Int) : (refStepE t r).1.ok := by
  obtain ⟨h1, h2, h3, h4, h5⟩ := h
  have hI : ∀ k, 0 ≤ k → k ≤ 4 → (⟨k, t.a, t.any⟩ : RPar).ok := fun k a b => ⟨⟨a, b⟩, h2, h3, h4, h5⟩
  have hJ : ∀ k, 0 ≤ k → k ≤ 4 → (⟨k, t.a, true⟩ : RPar).ok := fun k a b => ⟨⟨a, b⟩, h2, h3, h4, h5⟩
  have hT : t.ok := ⟨h1, h2, h3, h4, h5⟩
  unfold refStepE
  split
  · exact ⟨(show (0 : Int) ≤ 1 ∧ (1 : Int) ≤ 4 by decide), b0, Nat.zero_le 9, rfl, z8_in⟩
  split
  · exact hI 0 (by decide) (by decide)
  split
  · exact hT
  split
  · split
    · exact hT
    split
    · exact hI 0 (by decide) (by decide)
    · exact hT
  split
  · exact hT
  split
  · unfold refEscE
    split
    · refine ⟨h1, ?_, h3, h4, h5⟩
      show 0 ≤ (if t.a.mid = 0 then r else (255 : Int)) ∧ (if t.a.mid = 0 then r else (255 : Int)) ≤ 255
      split <;> omega
    split
    · exact hI 2 (by decide) (by decide)
    split
    · exact hI 4 (by decide) (by decide)
    split <;> exact hI 0 (by decide) (by decide)
  split
  · unfold refCsiE
    split
    · obtain ⟨k1, k2, k3, k4⟩ := okR_digit (r - 48) (by omega) h4 h5 h3
      exact ⟨h1, by show 0 ≤ (refDigitE t.a (r - 48)).mid ∧ (refDigitE t.a (r - 48)).mid ≤ 255; rw [k3]; exact h2, k1, k2, k4⟩
    split
    · exact ⟨h1, h2, by show min (max t.a.n 1 + 1) 9 ≤ 9; omega, h4, h5⟩
    split
    · exact ⟨h1, h2, h3, h4, h5⟩
    split
    · exact ⟨h1, by show 0 ≤ r ∧ r ≤ 255; omega, h3, h4, h5⟩
    split
    · exact hJ 0 (by decide) (by decide)
    · exact hJ 3 (by decide) (by decide)
  split
  · split
    · exact hI 0 (by decide) (by decide)
    · exact hT
  · exact hT
end Go.Proofs.Ytmppbmbhnoaggab
