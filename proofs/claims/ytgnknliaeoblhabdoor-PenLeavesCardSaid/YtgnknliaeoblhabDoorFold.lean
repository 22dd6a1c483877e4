/- A number is folded: nums.fold; bits of numbers. -/
import Derived.Test.YtgnknliaeoblhabDoorVar
import Derived.Test.YtgnknliaeoblhabDoorKit
import Derived.Test.YtgnknliaeoblhabDoorProg
import Derived.IntWalk
import Derived.KernelRfl
import Derived.Deep.LoopGhost
import Derived.Laws.BitsAll
import Derived.Laws.BitsAllLaws
namespace Go.Proofs.YtgnknliaeoblhabDoor
open Go Go.RowKit

theorem xor_ones (x : Nat) (h : x < 18446744073709551616) : x ^^^ 18446744073709551615 = 18446744073709551615 - x := by
  have e := congrArg BitVec.toNat (BitVec.xor_allOnes (x := BitVec.ofNat 64 x))
  simp only [BitVec.toNat_xor, BitVec.toNat_ofNat, BitVec.toNat_allOnes, BitVec.toNat_not] at e
  rw [Nat.mod_eq_of_lt h] at e
  exact e
theorem or_more : ∀ r, r < 256 → r ||| 128 = r % 128 + 128 := by decide +kernel
theorem fold_pos (n : Nat) (h : n ≤ 9223372036854775807) : bits .xor .u64 ((n : Int) * 2) ((n : Int) / 9223372036854775808) = ((foldN n : Nat) : Int) := by
  have := u64_xor_nat (2 * n) 0 (by omega) (by decide)
  rw [Nat.xor_zero] at this
  rw [show ((n : Int) * 2) = ((2 * n : Nat) : Int) from by omega, show ((n : Int) / 9223372036854775808) = ((0 : Nat) : Int) from by omega, this]
  unfold foldN; rw [if_pos (by omega)]; omega
theorem wrap_u64 (x : Int) : IntKind.u64.wrap x = x % 18446744073709551616 := rfl
theorem fold_neg (n : Nat) (h : 1 ≤ n) (h' : n ≤ 9223372036854775808) : bits .xor .u64 (IntKind.u64.wrap (IntKind.u64.wrap (-(n : Int)) * 2)) (IntKind.u64.wrap (-(n : Int) / 9223372036854775808)) = ((foldN (-(n : Int)) : Nat) : Int) := by
  have := u64_xor_nat (18446744073709551616 - 2 * n) 18446744073709551615 (by omega) (by decide)
  rw [xor_ones _ (by omega)] at this
  rw [wrap_u64, wrap_u64, wrap_u64, show (-(n : Int) % 18446744073709551616 * 2) % 18446744073709551616 = ((18446744073709551616 - 2 * n : Nat) : Int) from by omega, show (-(n : Int) / 9223372036854775808) % 18446744073709551616 = ((18446744073709551615 : Nat) : Int) from by omega, this]
  unfold foldN; rw [if_neg (by omega)]; omega
end Go.Proofs.YtgnknliaeoblhabDoor
