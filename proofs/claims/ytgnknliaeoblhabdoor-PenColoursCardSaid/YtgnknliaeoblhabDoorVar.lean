/- Words of no program: a number, folded; its bytes; what the beginning of a row of bytes reads as. -/
import Derived.WalkKit
namespace Go.Proofs.YtgnknliaeoblhabDoor
open Go Go.RowKit

def foldN (n : Int) : Nat := if 0 ≤ n then (2 * n).toNat else (-2 * n - 1).toNat
def unfoldN (u : Nat) : Int := if u % 2 = 0 then ((u / 2 : Nat) : Int) else -((u / 2 : Nat) : Int) - 1
theorem foldN_lt {n : Int} (h0 : -9223372036854775808 ≤ n) (h1 : n ≤ 9223372036854775807) : foldN n < 18446744073709551616 := by
  unfold foldN; split <;> omega
theorem unfold_fold (n : Int) : unfoldN (foldN n) = n := by
  unfold foldN unfoldN; split <;> split <;> omega
theorem fold_unfold (u : Nat) : foldN (unfoldN u) = u := by
  unfold foldN unfoldN; split <;> split <;> omega
theorem unfoldN_range {u : Nat} (h : u < 18446744073709551616) : -9223372036854775808 ≤ unfoldN u ∧ unfoldN u ≤ 9223372036854775807 := by
  unfold unfoldN; split <;> omega

/-- A folded number's bytes. -/
def encN (u : Nat) : List UInt8 := if u < 128 then [UInt8.ofNat u] else UInt8.ofNat (u % 128 + 128) :: encN (u / 128)
termination_by u
decreasing_by omega
theorem encN_small {u : Nat} (h : u < 128) : encN u = [UInt8.ofNat u] := by rw [encN, if_pos h]
theorem encN_big {u : Nat} (h : ¬u < 128) : encN u = UInt8.ofNat (u % 128 + 128) :: encN (u / 128) := by rw [encN, if_neg h]
theorem encN_pos (u : Nat) : 1 ≤ (encN u).length := by
  by_cases h : u < 128
  · rw [encN_small h]; simp
  · rw [encN_big h]; simp
theorem encN_mono : ∀ (v u : Nat), u ≤ v → (encN u).length ≤ (encN v).length := by
  intro v
  induction v using Nat.strongRecOn with
  | _ v ih =>
    intro u h
    by_cases hu : u < 128
    · rw [encN_small hu]; exact encN_pos v
    · rw [encN_big hu, encN_big (show ¬v < 128 by omega)]
      simp only [List.length_cons]
      have := ih (v / 128) (by omega) (u / 128) (by omega)
      omega
/-- How much room a number has from its i-th byte on. -/
theorem lim_step : ∀ i, i < 9 → 2 ^ (64 - 7 * i) = 128 * 2 ^ (64 - 7 * (i + 1)) := by decide
theorem encN_len : ∀ (i u : Nat), i ≤ 9 → u < 2 ^ (64 - 7 * i) → i + (encN u).length ≤ 10 := by
  intro i u
  induction u using Nat.strongRecOn generalizing i with
  | _ u ih =>
    intro hi hu
    by_cases h : u < 128
    · rw [encN_small h]; simp; omega
    · have h9 : i < 9 := by
        rcases Nat.lt_or_ge i 9 with h' | h'
        · exact h'
        · obtain rfl : i = 9 := by omega
          simp at hu; omega
      have hl := lim_step i h9
      have hlt : u / 128 < 2 ^ (64 - 7 * (i + 1)) := by
        generalize 2 ^ (64 - 7 * (i + 1)) = L at hl ⊢
        omega
      have hk := ih (u / 128) (by omega) (i + 1) (by omega) hlt
      rw [encN_big h, List.length_cons]
      omega
theorem encN_len10 {u : Nat} (h : u < 18446744073709551616) : (encN u).length ≤ 10 := by
  have := encN_len 0 u (by omega) h
  omega

/-- What a row begins with: what is wrong with it, or a folded number, and how many bytes it has. -/
inductive Got where
  | bad (code : Int)
  | num (u k : Nat)
def rd (i acc : Nat) : List UInt8 → Got
  | [] => .bad 11
  | b :: r => if (i = 9 ∧ 1 < b.toNat) ∨ (0 < i ∧ b.toNat = 0) then .bad 10 else if b.toNat < 128 then .num (acc + b.toNat * 128 ^ i) (i + 1) else rd (i + 1) (acc + (b.toNat - 128) * 128 ^ i) r
theorem toNat_ofNat8 {n : Nat} (h : n < 256) : (UInt8.ofNat n).toNat = n := by
  rw [UInt8.toNat_ofNat']; exact Nat.mod_eq_of_lt h
theorem rd_enc : ∀ (u i acc : Nat) (t : List UInt8), i ≤ 9 → u < 2 ^ (64 - 7 * i) → (0 < i → 0 < u) → rd i acc (encN u ++ t) = .num (acc + u * 128 ^ i) (i + (encN u).length) := by
  intro u
  induction u using Nat.strongRecOn with
  | _ u ih =>
    intro i acc t hi hu h0
    by_cases h : u < 128
    · rw [encN_small h]
      show rd i acc (UInt8.ofNat u :: t) = _
      have e := toNat_ofNat8 (show u < 256 by omega)
      rw [rd, e, if_neg, if_pos h]
      · rfl
      · rintro (⟨rfl, h1⟩ | ⟨h1, h2⟩)
        · simp at hu; omega
        · have := h0 h1; omega
    · have h9 : i < 9 := by
        rcases Nat.lt_or_ge i 9 with h' | h'
        · exact h'
        · obtain rfl : i = 9 := by omega
          simp at hu; omega
      have hl := lim_step i h9
      rw [encN_big h]
      show rd i acc (UInt8.ofNat (u % 128 + 128) :: (encN (u / 128) ++ t)) = _
      have e := toNat_ofNat8 (show u % 128 + 128 < 256 by omega)
      have hlt : u / 128 < 2 ^ (64 - 7 * (i + 1)) := by
        generalize 2 ^ (64 - 7 * (i + 1)) = L at hl ⊢
        omega
      rw [rd, e, if_neg (by omega), if_neg (by omega), ih (u / 128) (by omega) (i + 1) _ t (by omega) hlt (fun _ => by omega)]
      congr 1
      · rw [Nat.pow_succ, show u % 128 + 128 - 128 = u % 128 from by omega, Nat.mul_comm (128 ^ i) 128, ← Nat.mul_assoc, Nat.add_assoc, ← Nat.add_mul]
        congr 2; omega
      · simp only [List.length_cons]; omega
theorem rd_num : ∀ (l : List UInt8) (i acc u k : Nat), i ≤ 9 → rd i acc l = .num u k →
    ∃ v, u = acc + v * 128 ^ i ∧ l.take (k - i) = encN v ∧ k = i + (encN v).length ∧ k - i ≤ l.length ∧ (0 < i → 0 < v) ∧ v < 2 ^ (64 - 7 * i) := by
  intro l
  induction l with
  | nil => intro i acc u k _ h; simp [rd] at h
  | cons b r ih =>
    intro i acc u k hi h
    have hb := b.toNat_lt
    rw [rd] at h
    split at h
    · cases h
    rename_i hn
    split at h
    · rename_i h1
      injection h with e1 e2
      subst e1 e2
      refine ⟨b.toNat, rfl, ?_, ?_, by simp, fun h0 => by omega, ?_⟩
      · rw [encN_small h1, Nat.add_sub_cancel_left]; simp
      · rw [encN_small h1]; rfl
      · rcases Nat.lt_or_ge i 9 with h9 | h9
        · rw [lim_step i h9]
          have := Nat.two_pow_pos (64 - 7 * (i + 1))
          generalize 2 ^ (64 - 7 * (i + 1)) = L at this
          omega
        · obtain rfl : i = 9 := by omega
          simp; omega
    · rename_i h1
      have h9 : i < 9 := by omega
      obtain ⟨v, e1, e2, e3, e4, e5, e6⟩ := ih (i + 1) _ u k (by omega) h
      have hv := e5 (by omega)
      have hp := encN_pos v
      have hm : (b.toNat - 128 + 128 * v) % 128 + 128 = b.toNat := by omega
      have hd : (b.toNat - 128 + 128 * v) / 128 = v := by omega
      have he : encN (b.toNat - 128 + 128 * v) = b :: encN v := by
        rw [encN_big (by omega), hm, hd]; simp
      refine ⟨b.toNat - 128 + 128 * v, ?_, ?_, ?_, ?_, fun _ => by omega, ?_⟩
      · rw [e1, Nat.pow_succ, Nat.add_mul, Nat.add_assoc, Nat.mul_comm (128 ^ i) 128, ← Nat.mul_assoc, Nat.mul_comm v 128]
      · rw [he, show k - i = (k - (i + 1)) + 1 from by omega, List.take_succ_cons, e2]
      · rw [he, List.length_cons]; omega
      · rw [List.length_cons]; omega
      · rw [lim_step i h9]
        generalize 2 ^ (64 - 7 * (i + 1)) = L at e6
        omega
theorem rd_enc0 (u : Nat) (t : List UInt8) (h : u < 18446744073709551616) : rd 0 0 (encN u ++ t) = .num u (encN u).length := by
  rw [rd_enc u 0 0 t (by omega) h (fun h => absurd h (by omega))]
  simp
theorem rd_num0 {l : List UInt8} {u k : Nat} (h : rd 0 0 l = .num u k) : l.take k = encN u ∧ k = (encN u).length ∧ k ≤ l.length ∧ u < 18446744073709551616 := by
  obtain ⟨v, e1, e2, e3, e4, _, e6⟩ := rd_num l 0 0 u k (by omega) h
  obtain rfl : u = v := by simpa using e1
  exact ⟨by simpa using e2, by simpa using e3, by simpa using e4, by simpa using e6⟩
theorem rd_bad : ∀ (l : List UInt8) (i acc : Nat) (c : Int), rd i acc l = .bad c → c = 10 ∨ c = 11
  | [], i, acc, c, h => by rw [rd] at h; injection h with h; exact .inr h.symm
  | b :: r, i, acc, c, h => by
    rw [rd] at h
    split at h
    · injection h with h; exact .inl h.symm
    · split at h
      · cases h
      · exact rd_bad r _ _ c h
end Go.Proofs.YtgnknliaeoblhabDoor
