/- Contracts of the library at this program. · strings.Clone. · Words of no program: a number, folded; its bytes; what the beginning of a row of bytes reads as. · A number is folded: nums.fold; bits of numbers. -/
import Derived.Test.YtcmllaeihnmkkaaDoorU1
import Derived.Shelf.Strconv.Clone
import Derived.Test.YtcmllaeihnmkkaaDoorChecked
import Derived.WalkKit
import Derived.Test.YtcmllaeihnmkkaaDoorProg
import Derived.IntWalk
import Derived.KernelRfl
import Derived.Deep.LoopGhost
import Derived.Laws.BitsAll
import Derived.Laws.BitsAllLaws
namespace Go.Proofs
open Go Go.Shelf Go.RowKit
def Tryd.laysM316_ren : Go.Shelf.Ren := ⟨fun | 316 => 107 | n => n, fun | 9 => 9 | 3 => 3 | 4 => 4 | 37 => 29 | 0 => 0 | 127 => 162 | 5 => 5 | n => n, fun | n => n⟩
theorem Tryd.laysM316 : Go.Proofs.LaysM.n316 Tryd.prog Tryd.laysM316_ren := {
  mixed := by kernel_rfl
  f316 := Tryd.func107.trans (congrArg some (by kernel_rfl))
  t0 := Tryd.underlying0
  a0 := Tryd.isAgg0
  z0 := Tryd.sizeOf0
  v0 := Tryd.zeroValue0
  t3 := Tryd.underlying3
  a3 := Tryd.isAgg3
  z3 := Tryd.sizeOf3
  v3 := Tryd.zeroValue3
  t4 := Tryd.underlying4
  a4 := Tryd.isAgg4
  z4 := Tryd.sizeOf4
  v4 := Tryd.zeroValue4
  t9 := Tryd.underlying9
  a9 := Tryd.isAgg9
  z9 := Tryd.sizeOf9
  v9 := Tryd.zeroValue9
  t37 := Tryd.underlying29
  a37 := Tryd.isAgg29
  z37 := Tryd.sizeOf29
  v37 := Tryd.zeroValue29
  t127 := Tryd.underlying162
  a127 := Tryd.isAgg162
  z127 := Tryd.sizeOf162
  v127 := Tryd.zeroValue162
  t5 := Tryd.underlying5
  a5 := Tryd.isAgg5
  z5 := Tryd.sizeOf5
  v5 := Tryd.zeroValue5
  i0 := by kernel_rfl
  i3 := by kernel_rfl
  i4 := by kernel_rfl
  i5 := by kernel_rfl
  i9 := by kernel_rfl
  i37 := by kernel_rfl
  i127 := by kernel_rfl }
theorem Tryd.stringslite_Clone (s : ByteArray) (w : World) (hlim : s.size ≤ 281474976710656) :
    Calls Tryd.prog 107 #[.string s] w fun e w' => e = .returned (.string s) ∧ Below w.heap.size w w' := Any.stringslite_Clone Tryd.laysM316 s w hlim
end Go.Proofs
namespace Go.Proofs.YtcmllaeihnmkkaaDoor
open Go Go.RowKit

theorem strings_Clone (s : ByteArray) (w : World) (hs : s.size ≤ 281474976710656) : Calls Tryd.prog 52 #[.string s] w fun e w' => e = .returned (.string s) ∧ Ext w w' := by
  go_enter Tryd.func52, Tryd.ntmps52
  go_wp2_with fail
  refine (Tryd.stringslite_Clone s w hs).mono ?_
  rintro e w2 ⟨rfl, hx⟩
  go_wp2
  go_ret
  exact ⟨rfl, hx⟩
end Go.Proofs.YtcmllaeihnmkkaaDoor
namespace Go.Proofs.YtcmllaeihnmkkaaDoor
open Go Go.RowKit

def foldN (n : Int) : Nat := if 0 ≤ n then (2 * n).toNat else (-2 * n - 1).toNat
def unfoldN (u : Nat) : Int := if u % 2 = 0 then ((u / 2 : Nat) : Int) else -((u / 2 : Nat) : Int) - 1
theorem foldN_lt {n : Int} (h0 : -9223372036854775808 ≤ n) (h1 : n ≤ 9223372036854775807) : foldN n < 18446744073709551616 := by
  unfold foldN; split <;> omega
theorem unfold_fold (n : Int) : unfoldN (foldN n) = n := by
  unfold foldN unfoldN; split <;> split <;> omega
theorem fold_unfold (u : Nat) : foldN (unfoldN u) = u := by
  unfold foldN unfoldN; split <;> split <;> omega
theorem unfoldN_range {u : Nat} (h : u < 18446744073709551616) : -9223372036854775808 ≤ unfoldN u ∧ unfoldN u ≤ 9223372036854775807 := by
  unfold unfoldN; split <;> omega

/-- A folded number's bytes. -/
def encN (u : Nat) : List UInt8 := if u < 128 then [UInt8.ofNat u] else UInt8.ofNat (u % 128 + 128) :: encN (u / 128)
termination_by u
decreasing_by omega
theorem encN_small {u : Nat} (h : u < 128) : encN u = [UInt8.ofNat u] := by rw [encN, if_pos h]
theorem encN_big {u : Nat} (h : ¬u < 128) : encN u = UInt8.ofNat (u % 128 + 128) :: encN (u / 128) := by rw [encN, if_neg h]
theorem encN_pos (u : Nat) : 1 ≤ (encN u).length := by
  by_cases h : u < 128
  · rw [encN_small h]; simp
  · rw [encN_big h]; simp
theorem encN_mono : ∀ (v u : Nat), u ≤ v → (encN u).length ≤ (encN v).length := by
  intro v
  induction v using Nat.strongRecOn with
  | _ v ih =>
    intro u h
    by_cases hu : u < 128
    · rw [encN_small hu]; exact encN_pos v
    · rw [encN_big hu, encN_big (show ¬v < 128 by omega)]
      simp only [List.length_cons]
      have := ih (v / 128) (by omega) (u / 128) (by omega)
      omega
/-- How much room a number has from its i-th byte on. -/
theorem lim_step : ∀ i, i < 9 → 2 ^ (64 - 7 * i) = 128 * 2 ^ (64 - 7 * (i + 1)) := by decide
theorem encN_len : ∀ (i u : Nat), i ≤ 9 → u < 2 ^ (64 - 7 * i) → i + (encN u).length ≤ 10 := by
  intro i u
  induction u using Nat.strongRecOn generalizing i with
  | _ u ih =>
    intro hi hu
    by_cases h : u < 128
    · rw [encN_small h]; simp; omega
    · have h9 : i < 9 := by
        rcases Nat.lt_or_ge i 9 with h' | h'
        · exact h'
        · obtain rfl : i = 9 := by omega
          simp at hu; omega
      have hl := lim_step i h9
      have hlt : u / 128 < 2 ^ (64 - 7 * (i + 1)) := by
        generalize 2 ^ (64 - 7 * (i + 1)) = L at hl ⊢
        omega
      have hk := ih (u / 128) (by omega) (i + 1) (by omega) hlt
      rw [encN_big h, List.length_cons]
      omega
theorem encN_len10 {u : Nat} (h : u < 18446744073709551616) : (encN u).length ≤ 10 := by
  have := encN_len 0 u (by omega) h
  omega

/-- What a row begins with: what is wrong with it, or a folded number, and how many bytes it has. -/
inductive Got where
  | bad (code : Int)
  | num (u k : Nat)
def rd (i acc : Nat) : List UInt8 → Got
  | [] => .bad 11
  | b :: r => if (i = 9 ∧ 1 < b.toNat) ∨ (0 < i ∧ b.toNat = 0) then .bad 10 else if b.toNat < 128 then .num (acc + b.toNat * 128 ^ i) (i + 1) else rd (i + 1) (acc + (b.toNat - 128) * 128 ^ i) r
theorem toNat_ofNat8 {n : Nat} (h : n < 256) : (UInt8.ofNat n).toNat = n := by
  rw [UInt8.toNat_ofNat']; exact Nat.mod_eq_of_lt h
theorem rd_enc : ∀ (u i acc : Nat) (t : List UInt8), i ≤ 9 → u < 2 ^ (64 - 7 * i) → (0 < i → 0 < u) → rd i acc (encN u ++ t) = .num (acc + u * 128 ^ i) (i + (encN u).length) := by
  intro u
  induction u using Nat.strongRecOn with
  | _ u ih =>
    intro i acc t hi hu h0
    by_cases h : u < 128
    · rw [encN_small h]
      show rd i acc (UInt8.ofNat u :: t) = _
      have e := toNat_ofNat8 (show u < 256 by omega)
      rw [rd, e, if_neg, if_pos h]
      · rfl
      · rintro (⟨rfl, h1⟩ | ⟨h1, h2⟩)
        · simp at hu; omega
        · have := h0 h1; omega
    · have h9 : i < 9 := by
        rcases Nat.lt_or_ge i 9 with h' | h'
        · exact h'
        · obtain rfl : i = 9 := by omega
          simp at hu; omega
      have hl := lim_step i h9
      rw [encN_big h]
      show rd i acc (UInt8.ofNat (u % 128 + 128) :: (encN (u / 128) ++ t)) = _
      have e := toNat_ofNat8 (show u % 128 + 128 < 256 by omega)
      have hlt : u / 128 < 2 ^ (64 - 7 * (i + 1)) := by
        generalize 2 ^ (64 - 7 * (i + 1)) = L at hl ⊢
        omega
      rw [rd, e, if_neg (by omega), if_neg (by omega), ih (u / 128) (by omega) (i + 1) _ t (by omega) hlt (fun _ => by omega)]
      congr 1
      · rw [Nat.pow_succ, show u % 128 + 128 - 128 = u % 128 from by omega, Nat.mul_comm (128 ^ i) 128, ← Nat.mul_assoc, Nat.add_assoc, ← Nat.add_mul]
        congr 2; omega
      · simp only [List.length_cons]; omega
theorem rd_num : ∀ (l : List UInt8) (i acc u k : Nat), i ≤ 9 → rd i acc l = .num u k →
    ∃ v, u = acc + v * 128 ^ i ∧ l.take (k - i) = encN v ∧ k = i + (encN v).length ∧ k - i ≤ l.length ∧ (0 < i → 0 < v) ∧ v < 2 ^ (64 - 7 * i) := by
  intro l
  induction l with
  | nil => intro i acc u k _ h; simp [rd] at h
  | cons b r ih =>
    intro i acc u k hi h
    have hb := b.toNat_lt
    rw [rd] at h
    split at h
    · cases h
    rename_i hn
    split at h
    · rename_i h1
      injection h with e1 e2
      subst e1 e2
      refine ⟨b.toNat, rfl, ?_, ?_, by simp, fun h0 => by omega, ?_⟩
      · rw [encN_small h1, Nat.add_sub_cancel_left]; simp
      · rw [encN_small h1]; rfl
      · rcases Nat.lt_or_ge i 9 with h9 | h9
        · rw [lim_step i h9]
          have := Nat.two_pow_pos (64 - 7 * (i + 1))
          generalize 2 ^ (64 - 7 * (i + 1)) = L at this
          omega
        · obtain rfl : i = 9 := by omega
          simp; omega
    · rename_i h1
      have h9 : i < 9 := by omega
      obtain ⟨v, e1, e2, e3, e4, e5, e6⟩ := ih (i + 1) _ u k (by omega) h
      have hv := e5 (by omega)
      have hp := encN_pos v
      have hm : (b.toNat - 128 + 128 * v) % 128 + 128 = b.toNat := by omega
      have hd : (b.toNat - 128 + 128 * v) / 128 = v := by omega
      have he : encN (b.toNat - 128 + 128 * v) = b :: encN v := by
        rw [encN_big (by omega), hm, hd]; simp
      refine ⟨b.toNat - 128 + 128 * v, ?_, ?_, ?_, ?_, fun _ => by omega, ?_⟩
      · rw [e1, Nat.pow_succ, Nat.add_mul, Nat.add_assoc, Nat.mul_comm (128 ^ i) 128, ← Nat.mul_assoc, Nat.mul_comm v 128]
      · rw [he, show k - i = (k - (i + 1)) + 1 from by omega, List.take_succ_cons, e2]
      · rw [he, List.length_cons]; omega
      · rw [List.length_cons]; omega
      · rw [lim_step i h9]
        generalize 2 ^ (64 - 7 * (i + 1)) = L at e6
        omega
theorem rd_enc0 (u : Nat) (t : List UInt8) (h : u < 18446744073709551616) : rd 0 0 (encN u ++ t) = .num u (encN u).length := by
  rw [rd_enc u 0 0 t (by omega) h (fun h => absurd h (by omega))]
  simp
theorem rd_num0 {l : List UInt8} {u k : Nat} (h : rd 0 0 l = .num u k) : l.take k = encN u ∧ k = (encN u).length ∧ k ≤ l.length ∧ u < 18446744073709551616 := by
  obtain ⟨v, e1, e2, e3, e4, _, e6⟩ := rd_num l 0 0 u k (by omega) h
  obtain rfl : u = v := by simpa using e1
  exact ⟨by simpa using e2, by simpa using e3, by simpa using e4, by simpa using e6⟩
theorem rd_bad : ∀ (l : List UInt8) (i acc : Nat) (c : Int), rd i acc l = .bad c → c = 10 ∨ c = 11
  | [], i, acc, c, h => by rw [rd] at h; injection h with h; exact .inr h.symm
  | b :: r, i, acc, c, h => by
    rw [rd] at h
    split at h
    · injection h with h; exact .inl h.symm
    · split at h
      · cases h
      · exact rd_bad r _ _ c h
end Go.Proofs.YtcmllaeihnmkkaaDoor
namespace Go.Proofs.YtcmllaeihnmkkaaDoor
open Go Go.RowKit

theorem xor_ones (x : Nat) (h : x < 18446744073709551616) : x ^^^ 18446744073709551615 = 18446744073709551615 - x := by
  have e := congrArg BitVec.toNat (BitVec.xor_allOnes (x := BitVec.ofNat 64 x))
  simp only [BitVec.toNat_xor, BitVec.toNat_ofNat, BitVec.toNat_allOnes, BitVec.toNat_not] at e
  rw [Nat.mod_eq_of_lt h] at e
  exact e
theorem or_more : ∀ r, r < 256 → r ||| 128 = r % 128 + 128 := by decide +kernel
theorem fold_pos (n : Nat) (h : n ≤ 9223372036854775807) : bits .xor .u64 ((n : Int) * 2) ((n : Int) / 9223372036854775808) = ((foldN n : Nat) : Int) := by
  have := u64_xor_nat (2 * n) 0 (by omega) (by decide)
  rw [Nat.xor_zero] at this
  rw [show ((n : Int) * 2) = ((2 * n : Nat) : Int) from by omega, show ((n : Int) / 9223372036854775808) = ((0 : Nat) : Int) from by omega, this]
  unfold foldN; rw [if_pos (by omega)]; omega
theorem wrap_u64 (x : Int) : IntKind.u64.wrap x = x % 18446744073709551616 := rfl
theorem fold_neg (n : Nat) (h : 1 ≤ n) (h' : n ≤ 9223372036854775808) : bits .xor .u64 (IntKind.u64.wrap (IntKind.u64.wrap (-(n : Int)) * 2)) (IntKind.u64.wrap (-(n : Int) / 9223372036854775808)) = ((foldN (-(n : Int)) : Nat) : Int) := by
  have := u64_xor_nat (18446744073709551616 - 2 * n) 18446744073709551615 (by omega) (by decide)
  rw [xor_ones _ (by omega)] at this
  rw [wrap_u64, wrap_u64, wrap_u64, show (-(n : Int) % 18446744073709551616 * 2) % 18446744073709551616 = ((18446744073709551616 - 2 * n : Nat) : Int) from by omega, show (-(n : Int) / 9223372036854775808) % 18446744073709551616 = ((18446744073709551615 : Nat) : Int) from by omega, this]
  unfold foldN; rw [if_neg (by omega)]; omega
set_option maxRecDepth 100000 in
theorem fold_any (n : Int) (w : World) (h0 : -9223372036854775808 ≤ n) (h1 : n ≤ 9223372036854775807) : Calls Tryd.prog 121 #[.int .i64 n] w fun e w' => e = .returned (.int .u64 (foldN n)) ∧ w' = w := by
  by_cases hn : 0 ≤ n
  · obtain ⟨m, rfl⟩ := Int.eq_ofNat_of_zero_le hn
    have hm : m ≤ 9223372036854775807 := by omega
    have H := Lib.hid (fold_pos m hm)
    go_enter Tryd.func121, Tryd.ntmps121
    go_wp2
    go_ret
    exact ⟨by rw [← H.out]; rfl, rfl⟩
  · obtain ⟨m, hm⟩ := Int.eq_ofNat_of_zero_le (show 0 ≤ -n by omega)
    obtain rfl : n = -(m : Int) := by omega
    have hm1 : 1 ≤ m := by omega
    have hm2 : m ≤ 9223372036854775808 := by omega
    have H := Lib.hid (fold_neg m hm1 hm2)
    clear hm hn h0 h1
    go_enter Tryd.func121, Tryd.ntmps121
    go_wp2
    go_ret
    exact ⟨by rw [← H.out]; rfl, rfl⟩
end Go.Proofs.YtcmllaeihnmkkaaDoor
