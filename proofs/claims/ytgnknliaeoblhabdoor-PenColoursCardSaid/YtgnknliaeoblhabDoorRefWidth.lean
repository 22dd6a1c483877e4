/- The document's width of a character: lyceumref04.none, within, Width. -/
import Derived.Test.YtgnknliaeoblhabDoorWidth
namespace Go.Proofs.YtgnknliaeoblhabDoor
open Go Go.RowKit

def noneB (r : Int) : Bool := decide (¬ isRune r)
theorem noneB_true {r : Int} (h : r < 0 ∨ 1114111 < r ∨ (55296 ≤ r ∧ r ≤ 57343)) : noneB r = true := by unfold noneB isRune; simp; omega
theorem noneB_false {r : Int} (h : isRune r) : noneB r = false := by unfold noneB; simp [h]
def inR (r a b : Int) : Bool := decide (a ≤ r ∧ r ≤ b)
theorem wrap_of_i32 {r : Int} (h : isI32 r) : (r + 9223372036854775808) % 18446744073709551616 - 9223372036854775808 = r := by unfold isI32 at h; omega
def widthR (r : Int) : Int :=
  if (noneB r || decide (r < 32) || inR r 127 159 || inR r 768 879 || inR r 8203 8207 || inR r 65024 65039) = true then 0
  else if (inR r 4352 4447 || inR r 11904 12350 || inR r 12353 42191 || inR r 44032 55203 || inR r 63744 64255 || inR r 65072 65135 || inR r 65281 65376 || inR r 65504 65510 || inR r 127744 128591 || inR r 129280 129535 || inR r 131072 262141) = true then 2 else 1
theorem widthL_is (r : Int) : widthL r = (if r < -2147483648 then 1 else if r ≤ 31 then 0 else if r < 127 then 1 else if r ≤ 159 then 0 else if r < 768 then 1 else if r ≤ 879 then 0 else if r < 4352 then 1 else if r ≤ 4447 then 2 else if r < 8203 then 1 else if r ≤ 8207 then 0 else if r < 11904 then 1 else if r ≤ 12350 then 2 else if r < 12353 then 1 else if r ≤ 42191 then 2 else if r < 44032 then 1 else if r ≤ 55203 then 2 else if r < 55296 then 1 else if r ≤ 57343 then 0 else if r < 63744 then 1 else if r ≤ 64255 then 2 else if r < 65024 then 1 else if r ≤ 65039 then 0 else if r < 65072 then 1 else if r ≤ 65135 then 2 else if r < 65281 then 1 else if r ≤ 65376 then 2 else if r < 65504 then 1 else if r ≤ 65510 then 2 else if r < 127744 then 1 else if r ≤ 128591 then 2 else if r < 129280 then 1 else if r ≤ 129535 then 2 else if r < 131072 then 1 else if r ≤ 262141 then 2 else if r < 1114112 then 1 else if r ≤ 2147483647 then 0 else 1) := by kernel_rfl
theorem cond0 (r : Int) : (noneB r || decide (r < 32) || inR r 127 159 || inR r 768 879 || inR r 8203 8207 || inR r 65024 65039) = true ↔ (((((¬ ((0 ≤ r ∧ r < 55296) ∨ (57344 ≤ r ∧ r ≤ 1114111)) ∨ r < 32) ∨ (127 ≤ r ∧ r ≤ 159)) ∨ (768 ≤ r ∧ r ≤ 879)) ∨ (8203 ≤ r ∧ r ≤ 8207)) ∨ (65024 ≤ r ∧ r ≤ 65039)) := by
  unfold noneB inR isRune
  simp only [Bool.or_eq_true, decide_eq_true_eq]
theorem cond2 (r : Int) : (inR r 4352 4447 || inR r 11904 12350 || inR r 12353 42191 || inR r 44032 55203 || inR r 63744 64255 || inR r 65072 65135 || inR r 65281 65376 || inR r 65504 65510 || inR r 127744 128591 || inR r 129280 129535 || inR r 131072 262141) = true ↔ (((((((((((4352 ≤ r ∧ r ≤ 4447) ∨ (11904 ≤ r ∧ r ≤ 12350)) ∨ (12353 ≤ r ∧ r ≤ 42191)) ∨ (44032 ≤ r ∧ r ≤ 55203)) ∨ (63744 ≤ r ∧ r ≤ 64255)) ∨ (65072 ≤ r ∧ r ≤ 65135)) ∨ (65281 ≤ r ∧ r ≤ 65376)) ∨ (65504 ≤ r ∧ r ≤ 65510)) ∨ (127744 ≤ r ∧ r ≤ 128591)) ∨ (129280 ≤ r ∧ r ≤ 129535)) ∨ (131072 ≤ r ∧ r ≤ 262141)) := by
  unfold inR
  simp only [Bool.or_eq_true, decide_eq_true_eq]
set_option maxHeartbeats 2000000 in
theorem widthL_eq (r : Int) (hr : isI32 r) : widthL r = widthR r := by
  unfold isI32 at hr
  unfold widthR
  by_cases h0 : (((((¬ ((0 ≤ r ∧ r < 55296) ∨ (57344 ≤ r ∧ r ≤ 1114111)) ∨ r < 32) ∨ (127 ≤ r ∧ r ≤ 159)) ∨ (768 ≤ r ∧ r ≤ 879)) ∨ (8203 ≤ r ∧ r ≤ 8207)) ∨ (65024 ≤ r ∧ r ≤ 65039))
  · rw [if_pos ((cond0 r).2 h0), widthL_is]
    repeat' split
    all_goals omega
  · rw [if_neg (fun h => h0 ((cond0 r).1 h))]
    by_cases h2 : (((((((((((4352 ≤ r ∧ r ≤ 4447) ∨ (11904 ≤ r ∧ r ≤ 12350)) ∨ (12353 ≤ r ∧ r ≤ 42191)) ∨ (44032 ≤ r ∧ r ≤ 55203)) ∨ (63744 ≤ r ∧ r ≤ 64255)) ∨ (65072 ≤ r ∧ r ≤ 65135)) ∨ (65281 ≤ r ∧ r ≤ 65376)) ∨ (65504 ≤ r ∧ r ≤ 65510)) ∨ (127744 ≤ r ∧ r ≤ 128591)) ∨ (129280 ≤ r ∧ r ≤ 129535)) ∨ (131072 ≤ r ∧ r ≤ 262141))
    · rw [if_pos ((cond2 r).2 h2), widthL_is]
      repeat' split
      all_goals omega
    · rw [if_neg (fun h => h2 ((cond2 r).1 h)), widthL_is]
      repeat' split
      all_goals omega
end Go.Proofs.YtgnknliaeoblhabDoor
