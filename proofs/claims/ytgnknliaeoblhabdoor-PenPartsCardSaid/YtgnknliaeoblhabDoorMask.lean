/- A number's lowest bits. -/
import Derived.WalkKit
import Derived.Laws.Bits128
namespace Go.Proofs.YtgnknliaeoblhabDoor
open Go Go.RowKit

theorem i64_mask (n : Int) (k : Nat) (hk : k ≤ 62) (m : Int) (hm : (BitVec.ofInt 64 m).toNat = 2 ^ k - 1) : bits .and .i64 n m = n % (2 ^ k : Nat) := by
  have key : (BitVec.ofInt 64 n &&& BitVec.ofInt 64 m).toNat = (n % ((2 ^ 64 : Nat) : Int)).toNat % 2 ^ k := by
    rw [BitVec.toNat_and, BitVec.toNat_ofInt, hm, Nat.and_two_pow_sub_one_eq_mod]
  show IntKind.i64.wrap ((BitVec.ofInt 64 n &&& BitVec.ofInt 64 m).toNat : Nat) = _
  rw [key, IntKind.wrap_i64]
  have h1 : (2 ^ k : Nat) ∣ 2 ^ 64 := Nat.pow_dvd_pow 2 (by omega)
  have h2 : (((n % ((2 ^ 64 : Nat) : Int)).toNat : Nat) : Int) = n % ((2 ^ 64 : Nat) : Int) := Int.toNat_of_nonneg (Int.emod_nonneg _ (by decide))
  have h3 : (((n % ((2 ^ 64 : Nat) : Int)).toNat % 2 ^ k : Nat) : Int) = n % (2 ^ k : Nat) := by
    rw [Int.natCast_emod, h2]
    exact Int.emod_emod_of_dvd n (Int.natCast_dvd_natCast.2 h1)
  rw [h3]
  have h4 : (0 : Int) ≤ n % (2 ^ k : Nat) := Int.emod_nonneg _ (by have := Nat.two_pow_pos k; omega)
  have h5 : n % (2 ^ k : Nat) < (2 ^ k : Nat) := Int.emod_lt_of_pos _ (by have := Nat.two_pow_pos k; omega)
  have h6 : (2 ^ k : Nat) ≤ 2 ^ 62 := Nat.pow_le_pow_right (by decide) hk
  generalize n % (2 ^ k : Nat) = r at h4 h5
  generalize (2 ^ k : Nat) = q at h5 h6
  omega
end Go.Proofs.YtgnknliaeoblhabDoor
