/- Words of no program: cells, rows that are right, what was mended, runs, characters (chapter 5), as functions of lists. -/
import Derived.Test.YtgnknliaeoblhabDoorRefWidth
namespace Go.Proofs.YtgnknliaeoblhabDoor
open Go Go.RowKit

/-- A cell: its character, its colours, how it is drawn. -/
structure Cel where
  r : Int
  f : Int
  b : Int
  a : Int
instance : DecidableEq Cel := fun x y =>
  if h : x.r = y.r ∧ x.f = y.f ∧ x.b = y.b ∧ x.a = y.a then isTrue (by cases x; cases y; simp only at h; obtain ⟨rfl, rfl, rfl, rfl⟩ := h; rfl)
  else isFalse (fun e => h (by subst e; exact ⟨rfl, rfl, rfl, rfl⟩))
def isU8 (n : Int) : Prop := 0 ≤ n ∧ n < 256
def Cel.ok (c : Cel) : Prop := isI32 c.r ∧ isU8 c.f ∧ isU8 c.b ∧ isU8 c.a
def Cel.wide (c : Cel) : Bool := decide (c.a / 64 % 2 = 1)
def Cel.tl (c : Cel) : Bool := decide (c.a / 128 = 1)
def Cel.tail (c : Cel) : Cel := ⟨0, c.f, c.b, c.a % 64 + 128⟩
/-- May the cell be? -/
def Cel.check (c : Cel) : Bool := if c.tl then !c.wide && decide (c.r = 0) else if c.wide then decide (widthL c.r = 2) else decide (widthL c.r = 1)
/-- It may be, and is neither Wide nor a Tail. -/
def Cel.plain (c : Cel) : Bool := c.check && !c.wide && !c.tl
/-- It may be, and is Wide. -/
def Cel.opens (c : Cel) : Bool := c.check && c.wide
def Cel.blank : Cel := ⟨32, 0, 0, 0⟩
def Cel.gone (c : Cel) : Cel := ⟨32, c.f, c.b, 0⟩
def Cel.step (c : Cel) : Nat := if c.wide then 2 else 1
theorem Cel.step_pos (c : Cel) : 1 ≤ c.step := by unfold Cel.step; split <;> omega
theorem Cel.step_le (c : Cel) : c.step ≤ 2 := by unfold Cel.step; split <;> omega
theorem Cel.tail_wide (c : Cel) : c.tail.wide = false := by unfold Cel.wide Cel.tail; simp; omega
theorem Cel.tail_tl (c : Cel) : c.tail.tl = true := by unfold Cel.tl Cel.tail; simp; omega
theorem Cel.tail_check (c : Cel) : c.tail.check = true := by unfold Cel.check; rw [Cel.tail_tl, Cel.tail_wide]; rfl
theorem Cel.tail_plain (c : Cel) : c.tail.plain = false := by unfold Cel.plain; rw [Cel.tail_tl]; simp
theorem Cel.tail_opens (c : Cel) : c.tail.opens = false := by unfold Cel.opens; rw [Cel.tail_wide]; simp
theorem Cel.plain_opens {c : Cel} (h : c.plain = true) : c.opens = false := by unfold Cel.plain at h; unfold Cel.opens; simp at h; simp [h.1.2]
theorem Cel.opens_plain {c : Cel} (h : c.opens = true) : c.plain = false := by unfold Cel.opens at h; unfold Cel.plain; simp at h; simp [h.2]
theorem Cel.opens_tl {c : Cel} (h : c.opens = true) : c.tl = false := by
  unfold Cel.opens Cel.check at h
  cases ht : c.tl
  · rfl
  · rw [ht] at h; simp at h; rw [h.2] at h; simp at h
theorem Cel.plain_step {c : Cel} (h : c.plain = true) : c.step = 1 := by unfold Cel.plain at h; simp at h; unfold Cel.step; rw [h.1.2]; rfl
theorem Cel.opens_step {c : Cel} (h : c.opens = true) : c.step = 2 := by unfold Cel.opens at h; simp at h; unfold Cel.step; rw [h.2]; rfl
theorem Cel.ok_tail {c : Cel} (h : c.ok) : c.tail.ok := by
  unfold Cel.ok Cel.tail at *
  refine ⟨by unfold isI32; simp only; omega, h.2.1, h.2.2.1, ?_⟩
  have := h.2.2.2
  unfold isU8 at *
  simp only at *; omega
theorem Cel.ok_gone {c : Cel} (h : c.ok) : c.gone.ok := by
  unfold Cel.ok Cel.gone at *
  exact ⟨by unfold isI32; simp only; omega, h.2.1, h.2.2.1, by unfold isU8; simp only; omega⟩
theorem width32 : widthL 32 = 1 := by decide
theorem Cel.gone_plain (c : Cel) : c.gone.plain = true := by
  unfold Cel.plain Cel.check Cel.wide Cel.tl Cel.gone
  simp only [width32]; rfl

/-- How many cells the character has that a row begins with. -/
def wholeL : List Cel → Nat
  | [] => 0
  | c :: l => if c.plain then 1 else if c.opens && decide (l.head? = some c.tail) then 2 else 0
def rightL : List Cel → Bool
  | [] => true
  | [c] => c.plain
  | c :: d :: l => if c.plain then rightL (d :: l) else c.opens && decide (d = c.tail) && rightL l
def mendL : List Cel → List Cel
  | [] => []
  | [c] => [if c.plain then c else c.gone]
  | c :: d :: l => if c.plain then c :: mendL (d :: l) else if c.opens && decide (d = c.tail) then c :: d :: mendL l else c.gone :: mendL (d :: l)
theorem wholeL_cons (c : Cel) (l : List Cel) : wholeL (c :: l) = if c.plain then 1 else if c.opens && decide (l.head? = some c.tail) then 2 else 0 := rfl
theorem rightL_one (c : Cel) : rightL [c] = c.plain := by simp only [rightL]
theorem rightL_two (c d : Cel) (l : List Cel) : rightL (c :: d :: l) = if c.plain then rightL (d :: l) else c.opens && decide (d = c.tail) && rightL l := by simp only [rightL]
theorem mendL_one (c : Cel) : mendL [c] = [if c.plain then c else c.gone] := by simp only [mendL]
theorem mendL_two (c d : Cel) (l : List Cel) : mendL (c :: d :: l) = if c.plain then c :: mendL (d :: l) else if c.opens && decide (d = c.tail) then c :: d :: mendL l else c.gone :: mendL (d :: l) := by simp only [mendL]
theorem rightL_nil : rightL [] = true := by simp only [rightL]
theorem mendL_nil : mendL [] = [] := by simp only [mendL]
theorem wholeL_le : ∀ (l : List Cel), wholeL l ≤ l.length
  | [] => Nat.le_refl _
  | [c] => by rw [wholeL_cons]; simp only [List.head?_nil, List.length_cons, List.length_nil]; split <;> simp
  | c :: d :: l => by
    rw [wholeL_cons]; simp only [List.length_cons]
    split
    · omega
    · split <;> omega
theorem wholeL_le2 : ∀ (l : List Cel), wholeL l ≤ 2
  | [] => by simp [wholeL]
  | c :: l => by
    rw [wholeL_cons]
    split
    · omega
    · split <;> omega
theorem rightL_step : ∀ (l : List Cel), l ≠ [] → rightL l = (decide (wholeL l ≠ 0) && rightL (l.drop (wholeL l)))
  | [], h => absurd rfl h
  | [c], _ => by
    rw [rightL_one, wholeL_cons]
    cases hp : c.plain
    · simp
    · simp [rightL_nil]
  | c :: d :: l, _ => by
    rw [rightL_two, wholeL_cons]
    cases hp : c.plain
    · by_cases hd : d = c.tail
      · subst hd; cases ho : c.opens <;> simp
      · simp [hd]
    · simp
theorem mendL_step : ∀ (l : List Cel), l ≠ [] → wholeL l ≠ 0 → mendL l = l.take (wholeL l) ++ mendL (l.drop (wholeL l))
  | [], h, _ => absurd rfl h
  | [c], _, hw => by
    rw [wholeL_cons] at hw ⊢
    rw [mendL_one]
    cases hp : c.plain
    · rw [hp] at hw; simp at hw
    · simp [mendL_nil]
  | c :: d :: l, _, hw => by
    rw [wholeL_cons] at hw ⊢
    rw [mendL_two]
    cases hp : c.plain
    · by_cases hd : d = c.tail
      · subst hd; cases ho : c.opens
        · rw [hp, ho] at hw; simp at hw
        · simp
      · rw [hp] at hw; simp [hd] at hw
    · simp
theorem mendL_gone : ∀ (c : Cel) (l : List Cel), wholeL (c :: l) = 0 → mendL (c :: l) = c.gone :: mendL l
  | c, [], hw => by
    rw [wholeL_cons] at hw
    rw [mendL_one, mendL_nil]
    cases hp : c.plain
    · simp
    · rw [hp] at hw; simp at hw
  | c, d :: l, hw => by
    rw [wholeL_cons] at hw
    rw [mendL_two]
    cases hp : c.plain
    · by_cases hd : d = c.tail
      · subst hd; cases ho : c.opens
        · simp
        · rw [hp, ho] at hw; simp at hw
      · simp [hd]
    · rw [hp] at hw; simp at hw

/-- Two that stand together: a Wide one that may be, and its Tail. -/
def pairs : Option Cel → Option Cel → Bool
  | some c, some d => c.opens && decide (d = c.tail)
  | _, _ => false
def pairL (l : List Cel) (i : Nat) : Bool := pairs l[i]? l[i + 1]?
def aheadP (p : Option Cel) (l : List Cel) : Nat → Bool
  | 0 => pairs p l[0]?
  | i + 1 => pairL l i
def okP (p : Option Cel) (l : List Cel) (i : Nat) (c : Cel) : Bool := c.check && (!c.wide || pairL l i) && (!c.tl || aheadP p l i)
def mendP (p : Option Cel) (l : List Cel) (i : Nat) (c : Cel) : Cel := if pairL l i || aheadP p l i || c.plain then c else c.gone
theorem pairL_succ (c : Cel) (l : List Cel) (i : Nat) : pairL (c :: l) (i + 1) = pairL l i := rfl
theorem pairL_zero (c : Cel) (l : List Cel) : pairL (c :: l) 0 = pairs (some c) l[0]? := rfl
theorem aheadP_succ (p : Option Cel) (c : Cel) (l : List Cel) (i : Nat) : aheadP p (c :: l) (i + 1) = aheadP (some c) l i := by cases i <;> rfl
theorem okP_succ (p : Option Cel) (c d : Cel) (l : List Cel) (i : Nat) : okP p (c :: l) (i + 1) d = okP (some c) l i d := by unfold okP; rw [pairL_succ, aheadP_succ]
theorem mendP_succ (p : Option Cel) (c d : Cel) (l : List Cel) (i : Nat) : mendP p (c :: l) (i + 1) d = mendP (some c) l i d := by unfold mendP; rw [pairL_succ, aheadP_succ]
theorem pairs_not {c : Cel} (h : c.opens = false) (d : Option Cel) : pairs (some c) d = false := by cases d <;> simp [pairs, h]
theorem all_cons {p : Option Cel} {c : Cel} {l : List Cel} : (∀ i d, (c :: l)[i]? = some d → okP p (c :: l) i d = true) ↔ (okP p (c :: l) 0 c = true ∧ ∀ i d, l[i]? = some d → okP (some c) l i d = true) := by
  constructor
  · intro h
    refine ⟨h 0 c rfl, fun i d hi => ?_⟩
    have := h (i + 1) d hi
    rwa [okP_succ] at this
  · rintro ⟨h1, h2⟩ i d hi
    cases i with
    | zero => obtain rfl : c = d := by simpa using hi
              exact h1
    | succ i => rw [okP_succ]; exact h2 i d hi
theorem right_iff : ∀ (n : Nat) (l : List Cel) (p : Option Cel), l.length ≤ n → pairs p l[0]? = false → ((∀ i c, l[i]? = some c → okP p l i c = true) ↔ rightL l = true) := by
  intro n
  induction n with
  | zero =>
    intro l p hl _
    obtain rfl := List.eq_nil_of_length_eq_zero (Nat.le_zero.1 hl)
    exact ⟨fun _ => rfl, fun _ i c h => by cases h⟩
  | succ n ih =>
    intro l p hl hp
    cases l with
    | nil => exact ⟨fun _ => rfl, fun _ i c h => by cases h⟩
    | cons c t =>
      have hl' : t.length ≤ n := by simp at hl; omega
      rw [all_cons]
      have ha : aheadP p (c :: t) 0 = false := hp
      cases hpl : c.plain with
      | true =>
        have ho := Cel.plain_opens hpl
        have h0 : okP p (c :: t) 0 c = true := by
          unfold Cel.plain at hpl; simp at hpl
          unfold okP; simp [hpl]
        rw [ih t (some c) hl' (pairs_not ho _)]
        have : rightL (c :: t) = rightL t := by cases t <;> simp [rightL, hpl]
        rw [this]
        exact ⟨fun h => h.2, fun h => ⟨h0, h⟩⟩
      | false =>
        cases hpr : pairs (some c) t[0]? with
        | true =>
          cases t with
          | nil => simp [pairs] at hpr
          | cons d u =>
            simp [pairs] at hpr
            obtain ⟨ho, rfl⟩ := hpr
            have hu : u.length ≤ n := by simp at hl'; omega
            rw [all_cons, ih u (some c.tail) hu (pairs_not c.tail_opens _)]
            have h0 : okP p (c :: c.tail :: u) 0 c = true := by
              unfold okP
              rw [pairL_zero, Cel.opens_tl ho]
              have hc : c.check = true := by unfold Cel.opens at ho; simp at ho; exact ho.1
              simp [pairs, ho, hc]
            have h1 : okP (some c) (c.tail :: u) 0 c.tail = true := by
              unfold okP
              simp [Cel.tail_check, Cel.tail_wide, aheadP, pairs, ho]
            have hr : rightL (c :: c.tail :: u) = rightL u := by simp [rightL, hpl, ho]
            rw [hr]
            exact ⟨fun h => h.2.2, fun h => ⟨h0, h1, h⟩⟩
        | false =>
          have h0 : okP p (c :: t) 0 c = false := by
            unfold okP
            rw [ha, pairL_zero, hpr]
            unfold Cel.plain at hpl
            cases hc : c.check <;> cases hw : c.wide <;> cases ht : c.tl <;> simp_all
          have hr : rightL (c :: t) = false := by
            cases t with
            | nil => simp [rightL, hpl]
            | cons d u => simp [pairs] at hpr; simp [rightL, hpl]; intro h1 h2; exact absurd h2 (by simpa [h1] using hpr)
          rw [h0, hr]
          simp
theorem mend_at : ∀ (n : Nat) (l : List Cel) (p : Option Cel), l.length ≤ n → pairs p l[0]? = false → ∀ i c, l[i]? = some c → (mendL l)[i]? = some (mendP p l i c) := by
  intro n
  induction n with
  | zero =>
    intro l p hl _ i c hi
    obtain rfl := List.eq_nil_of_length_eq_zero (Nat.le_zero.1 hl)
    cases hi
  | succ n ih =>
    intro l p hl hp i x hi
    cases l with
    | nil => cases hi
    | cons c t =>
      have hl' : t.length ≤ n := by simp at hl; omega
      have ha : aheadP p (c :: t) 0 = false := hp
      cases hpr : pairs (some c) t[0]? with
      | true =>
        cases t with
        | nil => simp [pairs] at hpr
        | cons d u =>
          simp [pairs] at hpr
          obtain ⟨ho, rfl⟩ := hpr
          have hu : u.length ≤ n := by simp at hl'; omega
          have hm : mendL (c :: c.tail :: u) = c :: c.tail :: mendL u := by simp [mendL, Cel.opens_plain ho, ho]
          rw [hm]
          match i, hi with
          | 0, hi =>
            obtain rfl : c = x := by simpa using hi
            simp [mendP, pairL_zero]
            simp [pairs, ho]
          | 1, hi =>
            obtain rfl : c.tail = x := by simpa using hi
            rw [mendP_succ]
            simp [mendP, aheadP, pairs, ho]
          | i + 2, hi =>
            rw [mendP_succ, mendP_succ]
            exact ih u (some c.tail) hu (pairs_not c.tail_opens _) i x hi
      | false =>
        have hm : mendL (c :: t) = (if c.plain then c else c.gone) :: mendL t := by
          cases t with
          | nil => simp [mendL]
          | cons d u =>
            simp [pairs] at hpr
            cases hpl : c.plain
            · cases ho : c.opens
              · simp [mendL, hpl, ho]
              · simp [mendL, hpl, ho, hpr ho]
            · simp [mendL, hpl]
        rw [hm]
        cases i with
        | zero =>
          obtain rfl : c = x := by simpa using hi
          simp only [List.getElem?_cons_zero]
          unfold mendP
          rw [ha, pairL_zero, hpr]
          simp
        | succ i =>
          rw [mendP_succ]
          exact ih t (some c) hl' hpr i x hi
theorem mendL_len : ∀ (n : Nat) (l : List Cel), l.length ≤ n → (mendL l).length = l.length := by
  intro n
  induction n with
  | zero => intro l hl; obtain rfl := List.eq_nil_of_length_eq_zero (Nat.le_zero.1 hl); rfl
  | succ n ih =>
    intro l hl
    match l, hl with
    | [], _ => rfl
    | [c], _ => simp [mendL]
    | c :: d :: u, hl =>
      simp only [List.length_cons] at hl
      have h1 := ih (d :: u) (by simp only [List.length_cons]; omega)
      have h2 := ih u (by omega)
      unfold mendL
      repeat' split
      all_goals simp only [List.length_cons] at *
      all_goals omega
theorem mendL_length (l : List Cel) : (mendL l).length = l.length := mendL_len _ l (Nat.le_refl _)
/-- What was mended is right. -/
theorem mendL_right : ∀ (n : Nat) (l : List Cel), l.length ≤ n → rightL (mendL l) = true := by
  intro n
  induction n with
  | zero => intro l hl; obtain rfl := List.eq_nil_of_length_eq_zero (Nat.le_zero.1 hl); rfl
  | succ n ih =>
    intro l hl
    have hcons : ∀ (x : Cel) (t : List Cel), x.plain = true → rightL t = true → rightL (x :: t) = true := fun x t hx ht => by cases t <;> simp [rightL, hx, ht]
    match l, hl with
    | [], _ => rfl
    | [c], _ =>
      unfold mendL
      cases hp : c.plain
      · exact hcons _ _ c.gone_plain rfl
      · exact hcons _ _ hp rfl
    | c :: d :: u, hl =>
      simp only [List.length_cons] at hl
      have h1 := ih (d :: u) (by simp only [List.length_cons]; omega)
      have h2 := ih u (by omega)
      unfold mendL
      split
      · rename_i hp; exact hcons _ _ hp h1
      · split
        · rename_i hp ho
          simp at ho
          obtain ⟨ho, rfl⟩ := ho
          simp [rightL, hp, ho, h2]
        · exact hcons _ _ c.gone_plain h1
/-- A right row is not changed. -/
theorem mendL_same : ∀ (n : Nat) (l : List Cel), l.length ≤ n → rightL l = true → mendL l = l := by
  intro n
  induction n with
  | zero => intro l hl _; obtain rfl := List.eq_nil_of_length_eq_zero (Nat.le_zero.1 hl); rfl
  | succ n ih =>
    intro l hl hr
    match l, hl, hr with
    | [], _, _ => rfl
    | [c], _, hr => simp [rightL] at hr; simp [mendL, hr]
    | c :: d :: u, hl, hr =>
      simp only [List.length_cons] at hl
      unfold rightL at hr
      unfold mendL
      split at hr
      · rename_i hp
        rw [if_pos hp, ih (d :: u) (by simp only [List.length_cons]; omega) hr]
      · rename_i hp
        simp at hr
        rw [if_neg hp, if_pos (by simp [hr.1]), ih u (by omega) hr.2]
theorem mendL_again (l : List Cel) : mendL (mendL l) = mendL l := mendL_same _ _ (Nat.le_refl _) (mendL_right _ l (Nat.le_refl _))
theorem kept_iff (l : List Cel) : (l = mendL l) ↔ rightL l = true :=
  ⟨fun h => by rw [h]; exact mendL_right _ l (Nat.le_refl _), fun h => (mendL_same _ l (Nat.le_refl _) h).symm⟩
theorem mendL_ok {l : List Cel} (h : ∀ c, c ∈ l → c.ok) : ∀ c, c ∈ mendL l → c.ok := by
  intro c hc
  obtain ⟨i, hi⟩ := List.getElem?_of_mem hc
  have hl : i < l.length := by rw [← mendL_length l]; exact (List.getElem?_eq_some_iff.1 hi).1
  have hli : l[i]? = some l[i] := List.getElem?_eq_getElem hl
  have := mend_at _ l none (Nat.le_refl _) rfl i _ hli
  rw [hi] at this
  injection this with this
  rw [this]
  unfold mendP
  split
  · exact h _ (List.getElem_mem hl)
  · exact Cel.ok_gone (h _ (List.getElem_mem hl))
end Go.Proofs.YtgnknliaeoblhabDoor
