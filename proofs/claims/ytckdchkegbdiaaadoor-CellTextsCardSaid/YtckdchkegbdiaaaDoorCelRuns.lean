/- Words of no program: the runs of a row, its bytes, its characters (chapter 5). -/
import Derived.Test.YtckdchkegbdiaaaDoorCelMath
import Derived.Test.YtckdchkegbdiaaaDoorPutAll
namespace Go.Proofs.YtckdchkegbdiaaaDoor
open Go Go.RowKit

/-- So often stands the cell, step by step. -/
def IsRun (c : Cel) (k : Nat) (l : List Cel) (n : Nat) : Prop := (∀ j, j < n → l[j * k]? = some c) ∧ ¬ l[n * k]? = some c
def runGo (c : Cel) (k : Nat) (l : List Cel) : Nat → Nat → Nat
  | 0, n => n
  | fu + 1, n => if l[n * k]? = some c then runGo c k l fu (n + 1) else n
def runN (c : Cel) (k : Nat) (l : List Cel) : Nat := runGo c k l l.length 0
theorem runGo_is (c : Cel) (k : Nat) (l : List Cel) (hk : 1 ≤ k) : ∀ (fu n : Nat), (∀ j, j < n → l[j * k]? = some c) → l.length ≤ n + fu → IsRun c k l (runGo c k l fu n) := by
  intro fu
  induction fu with
  | zero =>
    intro n h hl
    refine ⟨h, ?_⟩
    have : n ≤ n * k := Nat.le_mul_of_pos_right n hk
    have h2 : l.length ≤ n * k := Nat.le_trans (by omega) this
    show ¬ l[n * k]? = some c
    rw [List.getElem?_eq_none h2]
    simp
  | succ fu ih =>
    intro n h hl
    unfold runGo
    split
    · rename_i hc
      refine ih (n + 1) (fun j hj => ?_) (by omega)
      rcases Nat.lt_or_ge j n with h1 | h1
      · exact h j h1
      · obtain rfl : j = n := by omega
        exact hc
    · rename_i hc
      exact ⟨h, hc⟩
theorem runN_is (c : Cel) (k : Nat) (l : List Cel) (hk : 1 ≤ k) : IsRun c k l (runN c k l) := runGo_is c k l hk _ 0 (fun j hj => absurd hj (Nat.not_lt_zero j)) (by omega)
theorem IsRun.unique {c : Cel} {k : Nat} {l : List Cel} {n m : Nat} (h : IsRun c k l n) (h' : IsRun c k l m) : n = m := by
  rcases Nat.lt_trichotomy n m with h1 | h1 | h1
  · exact absurd (h'.1 n h1) h.2
  · exact h1
  · exact absurd (h.1 m h1) h'.2
theorem runN_pos (c : Cel) (k : Nat) (l : List Cel) (hk : 1 ≤ k) : 1 ≤ runN c k (c :: l) := by
  rcases Nat.eq_zero_or_pos (runN c k (c :: l)) with h | h
  · have := (runN_is c k (c :: l) hk).2
    rw [h] at this
    simp at this
  · exact h
def runsGo : Nat → List Cel → List (Nat × Cel)
  | 0, _ => []
  | _ + 1, [] => []
  | fu + 1, c :: l => (runN c c.step (c :: l), c) :: runsGo fu ((c :: l).drop (runN c c.step (c :: l) * c.step))
/-- The runs of a right row. -/
def runsL (l : List Cel) : List (Nat × Cel) := runsGo l.length l
theorem run_drop (c : Cel) (l : List Cel) : ((c :: l).drop (runN c c.step (c :: l) * c.step)).length ≤ l.length := by
  have h1 := runN_pos c c.step l c.step_pos
  have h2 := c.step_pos
  have h3 := Nat.mul_le_mul h1 h2
  rw [List.length_drop, List.length_cons]
  omega
theorem runsGo_any : ∀ (f g : Nat) (l : List Cel), l.length ≤ f → l.length ≤ g → runsGo f l = runsGo g l := by
  intro f
  induction f with
  | zero =>
    intro g l hf _
    obtain rfl := List.eq_nil_of_length_eq_zero (Nat.le_zero.1 hf)
    cases g <;> rfl
  | succ f ih =>
    intro g l hf hg
    cases l with
    | nil => cases g <;> rfl
    | cons c l =>
      cases g with
      | zero => simp at hg
      | succ g =>
        simp only [List.length_cons] at hf hg
        have h := run_drop c l
        simp only [runsGo]
        rw [ih g _ (by omega) (by omega)]
theorem runsL_nil : runsL [] = [] := rfl
theorem runsL_cons (c : Cel) (l : List Cel) : runsL (c :: l) = (runN c c.step (c :: l), c) :: runsL ((c :: l).drop (runN c c.step (c :: l) * c.step)) := by
  have h := run_drop c l
  show runsGo (l.length + 1) (c :: l) = _
  unfold runsL
  simp only [runsGo]
  rw [runsGo_any l.length _ _ h (Nat.le_refl _)]
theorem right_whole {c : Cel} {l : List Cel} (h : rightL (c :: l) = true) : wholeL (c :: l) = c.step ∧ c.step ≤ (c :: l).length ∧ rightL ((c :: l).drop c.step) = true ∧ (c.plain = true ∨ c.opens = true) := by
  rw [rightL_step _ (by simp)] at h
  simp only [Bool.and_eq_true, decide_eq_true_eq] at h
  have hle := wholeL_le (c :: l)
  have hw : wholeL (c :: l) = c.step ∧ (c.plain = true ∨ c.opens = true) := by
    rw [wholeL_cons] at h ⊢
    split
    · rename_i hp; exact ⟨(Cel.plain_step hp).symm, .inl hp⟩
    · rename_i hp
      rw [if_neg hp] at h
      split
      · rename_i ho
        simp at ho
        exact ⟨(Cel.opens_step ho.1).symm, .inr ho.1⟩
      · rename_i ho
        rw [if_neg ho] at h
        exact absurd rfl h.1
  rw [hw.1] at h hle
  exact ⟨hw.1, hle, h.2, hw.2⟩
theorem right_run (c : Cel) (l : List Cel) (hr : rightL l = true) : ∀ (n : Nat), (∀ j, j < n → l[j * c.step]? = some c) → n * c.step ≤ l.length ∧ rightL (l.drop (n * c.step)) = true := by
  intro n
  induction n with
  | zero => intro _; rw [Nat.zero_mul]; exact ⟨Nat.zero_le _, hr⟩
  | succ n ih =>
    intro h
    obtain ⟨h1, h2⟩ := ih (fun j hj => h j (by omega))
    have h3 := h n (Nat.lt_succ_self n)
    have h4 : l.drop (n * c.step) = c :: l.drop (n * c.step + 1) := by
      rw [List.drop_eq_getElem_cons (List.getElem?_eq_some_iff.1 h3).1]
      rw [(List.getElem?_eq_some_iff.1 h3).2]
    rw [h4] at h2
    obtain ⟨_, h5, h6, _⟩ := right_whole h2
    rw [← h4] at h5 h6
    rw [List.length_drop] at h5
    rw [List.drop_drop] at h6
    rw [Nat.add_mul, Nat.one_mul]
    exact ⟨by have := c.step_pos; omega, h6⟩
/-- The bytes of a run. -/
def runB (p : Nat × Cel) : List UInt8 := putN [(p.1 : Int) - 1, p.2.r, p.2.f, p.2.b, p.2.a]
def runsB (l : List (Nat × Cel)) : List UInt8 := (l.map runB).flatten
theorem runsB_append (a b : List (Nat × Cel)) : runsB (a ++ b) = runsB a ++ runsB b := by simp [runsB]
theorem runsB_one (p : Nat × Cel) : runsB [p] = runB p := by simp [runsB]
theorem runsB_cons (p : Nat × Cel) (l : List (Nat × Cel)) : runsB (p :: l) = runB p ++ runsB l := by simp [runsB]
/-- A row as bytes. -/
def bytesL (l : List Cel) : List UInt8 := if rightL l then runsB (runsL l) else []
theorem runs_len : ∀ (n : Nat) (l : List Cel), l.length ≤ n → (runsL l).length ≤ l.length := by
  intro n
  induction n with
  | zero => intro l hl; obtain rfl := List.eq_nil_of_length_eq_zero (Nat.le_zero.1 hl); exact Nat.le_refl _
  | succ n ih =>
    intro l hl
    cases l with
    | nil => exact Nat.le_refl _
    | cons c l =>
      have h := run_drop c l
      simp only [List.length_cons] at hl
      rw [runsL_cons, List.length_cons, List.length_cons]
      have := ih _ (Nat.le_trans h (by omega))
      omega
theorem runs_mem : ∀ (n : Nat) (l : List Cel), l.length ≤ n → ∀ x, x ∈ runsL l → x.2 ∈ l ∧ 1 ≤ x.1 ∧ x.1 ≤ l.length := by
  intro n
  induction n with
  | zero => intro l hl x hx; obtain rfl := List.eq_nil_of_length_eq_zero (Nat.le_zero.1 hl); cases hx
  | succ n ih =>
    intro l hl x hx
    cases l with
    | nil => cases hx
    | cons c l =>
      have h := run_drop c l
      simp only [List.length_cons] at hl
      rw [runsL_cons] at hx
      rcases List.mem_cons.1 hx with rfl | hx
      · have h1 := runN_pos c c.step l c.step_pos
        have h2 := (runN_is c c.step (c :: l) c.step_pos).1 (runN c c.step (c :: l) - 1) (by omega)
        have h3 := (List.getElem?_eq_some_iff.1 h2).1
        have h4 := Nat.le_mul_of_pos_right (runN c c.step (c :: l) - 1) c.step_pos
        exact ⟨List.mem_cons_self .., h1, by show runN c c.step (c :: l) ≤ _; omega⟩
      · obtain ⟨h1, h2, h3⟩ := ih _ (Nat.le_trans h (by omega)) x hx
        exact ⟨List.mem_of_mem_drop h1, h2, by rw [List.length_cons]; omega⟩
/-- The characters of a row. -/
def charsL (l : List Cel) : List Int := l.filterMap fun c => if c.check then (if c.tl then none else some c.r) else some 63
theorem charsL_append (a b : List Cel) : charsL (a ++ b) = charsL a ++ charsL b := List.filterMap_append
theorem charsL_len (l : List Cel) : (charsL l).length ≤ l.length := List.length_filterMap_le _ _
/-- Without blanks at the end. -/
def stripL (l : List Int) : List Int := (l.reverse.dropWhile (· == 32)).reverse
theorem stripL_last (l : List Int) : stripL (l ++ [32]) = stripL l := by simp [stripL]
theorem stripL_stop (l : List Int) (c : Int) (h : c ≠ 32) : stripL (l ++ [c]) = l ++ [c] := by simp [stripL, h]
theorem stripL_nil : stripL [] = [] := rfl
end Go.Proofs.YtckdchkegbdiaaaDoor
