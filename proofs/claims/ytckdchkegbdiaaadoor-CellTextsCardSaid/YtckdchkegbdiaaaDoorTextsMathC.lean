/- Words of no program: how wide a row's text is, and how it ends (chapter 5). -/
import Derived.Test.YtckdchkegbdiaaaDoorRowC
import Derived.Test.YtckdchkegbdiaaaDoorTextC
import Derived.Test.YtckdchkegbdiaaaDoorRunesFirst
namespace Go.Proofs.YtckdchkegbdiaaaDoor
open Go Go.RowKit

/-- How wide characters are in all. -/
def sumW : List Int → Int
  | [] => 0
  | r :: l => widthL r + sumW l
theorem sumW_append : ∀ (a b : List Int), sumW (a ++ b) = sumW a + sumW b
  | [], b => by simp [sumW]
  | r :: a, b => by simp only [List.cons_append, sumW, sumW_append a b]; omega
theorem sumW_take (l : List Int) (i : Nat) (r : Int) (h : l[i]? = some r) : sumW (l.take (i + 1)) = sumW (l.take i) + widthL r := by
  rw [List.take_add_one, h, sumW_append]
  simp [sumW]
theorem sumW_bound : ∀ (l : List Int), (∀ r, r ∈ l → isI32 r) → 0 ≤ sumW l ∧ sumW l ≤ 2 * l.length
  | [], _ => by simp [sumW]
  | r :: l, h => by
    have h1 := sumW_bound l (fun x hx => h x (List.mem_cons_of_mem _ hx))
    have h2 := width_cases r (h r (List.mem_cons_self ..))
    simp only [sumW, List.length_cons]
    omega
theorem strip_split (l : List Int) : ∃ t, l = stripL l ++ t := by
  refine ⟨(l.reverse.takeWhile (· == 32)).reverse, ?_⟩
  unfold stripL
  rw [← List.reverse_append, List.takeWhile_append_dropWhile, List.reverse_reverse]
theorem dropW_head (p : Int → Bool) : ∀ (m : List Int), m.dropWhile p = [] ∨ ∃ c t, m.dropWhile p = c :: t ∧ p c = false
  | [] => .inl rfl
  | c :: m => by
    rw [List.dropWhile_cons]
    split
    · exact dropW_head p m
    · rename_i h
      exact .inr ⟨c, m, rfl, by simpa using h⟩
theorem strip_ends (l : List Int) : stripL l = [] ∨ ∃ t c, stripL l = t ++ [c] ∧ c ≠ 32 := by
  unfold stripL
  rcases dropW_head (· == 32) l.reverse with h | ⟨c, t, h, hc⟩
  · left; rw [h]; rfl
  · right
    refine ⟨t.reverse, c, by rw [h, List.reverse_cons], ?_⟩
    simpa using hc
theorem strip_mem {l : List Int} {r : Int} (h : r ∈ stripL l) : r ∈ l := by
  obtain ⟨t, ht⟩ := strip_split l
  rw [ht]; exact List.mem_append_left _ h
theorem strip_len (l : List Int) : (stripL l).length ≤ l.length := by
  obtain ⟨t, ht⟩ := strip_split l
  have := congrArg List.length ht
  rw [List.length_append] at this
  omega
theorem row_rune (n : Int) : isRune (rowR n) := by
  have h : ∀ k : Fin 16, isRune ((rowChars[k.val]?).getD 0) := by unfold isRune; decide
  have h2 : (n % 16).toNat < 16 := by omega
  exact h ⟨_, h2⟩
theorem rows_chars : ∀ (l : List Int), sumW (charsL (l.flatMap rowOne)) = ((l.flatMap rowOne).length : Int) ∧ ∀ r, r ∈ charsL (l.flatMap rowOne) → isRune r
  | [] => ⟨rfl, fun r hr => by cases hr⟩
  | n :: l => by
    obtain ⟨h1, h2⟩ := rows_chars l
    have e : (n :: l).flatMap rowOne = rowOne n ++ l.flatMap rowOne := rfl
    have hc := make_chars (rowR n) (rowPen n) (row_i32 n) (row_pen n)
    have hl := make_len (rowR n) (rowPen n) (row_i32 n)
    have e2 : rowOne n = makeL (rowR n) (rowPen n) := rfl
    rw [← e2] at hc hl
    rw [e, charsL_append, sumW_append, List.length_append, h1, hc]
    constructor
    · rcases width_cases _ (row_i32 n) with h | h | h
      · rw [if_neg (by omega)]; simp only [sumW]; omega
      · rw [if_pos (by omega)]; simp only [sumW]; omega
      · rw [if_pos (by omega)]; simp only [sumW]; omega
    · intro r hr
      rcases List.mem_append.1 hr with hr | hr
      · split at hr
        · rw [List.mem_singleton.1 hr]; exact row_rune n
        · cases hr
      · exact h2 r hr
theorem row_wide (zs : List Int) : sumW (stripL (charsL (rowL zs))) ≤ (rowL zs).length := by
  obtain ⟨h1, h2⟩ := rows_chars (zs.take 40)
  obtain ⟨t, ht⟩ := strip_split (charsL (rowL zs))
  have h3 : sumW (charsL (rowL zs)) = ((rowL zs).length : Int) := h1
  have h4 := congrArg sumW ht
  rw [sumW_append] at h4
  have h5 := (sumW_bound t (fun r hr => isI32_rune (h2 r (by
    show r ∈ charsL (rowL zs)
    rw [ht]; exact List.mem_append_right _ hr)))).1
  omega
theorem row_decoded (zs : List Int) : decL (bts (encS (stripL (charsL (rowL zs))))) = stripL (charsL (rowL zs)) := by
  rw [bts_encS, decL_encL]
  exact map_fix _ (fun r hr => (rows_chars (zs.take 40)).2 r (strip_mem hr))
theorem encR_last (c : Int) (h : c ≠ 32) : ∃ t b, encR c = t ++ [b] ∧ b ≠ (32 : UInt8) := by
  have hn : ∀ x : Nat, x < 256 → x ≠ 32 → UInt8.ofNat x ≠ (32 : UInt8) := fun x hx hne e => by
    have h1 := congrArg UInt8.toNat e
    rw [toNat8 hx] at h1
    exact hne h1
  have hf := (numR_lt c).2.2
  rw [encR_of]
  split
  · rename_i hs
    refine ⟨[], _, rfl, hn _ (by omega) (fun e => ?_)⟩
    unfold fixR at hf
    split at hf
    · omega
    · omega
  · split
    · exact ⟨[_], _, rfl, hn _ (by omega) (by omega)⟩
    · split
      · exact ⟨[_, _], _, rfl, hn _ (by omega) (by omega)⟩
      · exact ⟨[_, _, _], _, rfl, hn _ (by omega) (by omega)⟩
/-- A text without a blank at its end does not end in the blank's byte. -/
theorem strip_last (l : List Int) : (encS (stripL l)).size = 0 ∨ ∃ t b, bts (encS (stripL l)) = t ++ [b] ∧ b ≠ (32 : UInt8) := by
  rcases strip_ends l with h | ⟨t, c, h, hc⟩
  · left; rw [h]; rfl
  · right
    obtain ⟨u, b, hu, hb⟩ := encR_last c hc
    refine ⟨encL t ++ u, b, ?_, hb⟩
    rw [bts_encS, h, encL_append, encL_cons, encL_nil, List.append_nil, hu, List.append_assoc]
end Go.Proofs.YtckdchkegbdiaaaDoor
