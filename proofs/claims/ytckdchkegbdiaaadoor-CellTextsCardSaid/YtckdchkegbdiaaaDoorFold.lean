/- A number is folded: nums.fold; bits of numbers. -/
import Derived.Test.YtckdchkegbdiaaaDoorVar
import Derived.Test.YtckdchkegbdiaaaDoorKit
import Derived.Test.YtckdchkegbdiaaaDoorProg
import Derived.IntWalk
import Derived.KernelRfl
import Derived.Deep.LoopGhost
import Derived.Laws.BitsAll
import Derived.Laws.BitsAllLaws
namespace Go.Proofs.YtckdchkegbdiaaaDoor
open Go Go.RowKit

theorem xor_ones (x : Nat) (h : x < 18446744073709551616) : x ^^^ 18446744073709551615 = 18446744073709551615 - x := by
  have e := congrArg BitVec.toNat (BitVec.xor_allOnes (x := BitVec.ofNat 64 x))
  simp only [BitVec.toNat_xor, BitVec.toNat_ofNat, BitVec.toNat_allOnes, BitVec.toNat_not] at e
  rw [Nat.mod_eq_of_lt h] at e
  exact e
theorem or_more : ∀ r, r < 256 → r ||| 128 = r % 128 + 128 := by decide +kernel
theorem fold_pos (n : Nat) (h : n ≤ 9223372036854775807) : bits .xor .u64 ((n : Int) * 2) ((n : Int) / 9223372036854775808) = ((foldN n : Nat) : Int) := by
  have := u64_xor_nat (2 * n) 0 (by omega) (by decide)
  rw [Nat.xor_zero] at this
  rw [show ((n : Int) * 2) = ((2 * n : Nat) : Int) from by omega, show ((n : Int) / 9223372036854775808) = ((0 : Nat) : Int) from by omega, this]
  unfold foldN; rw [if_pos (by omega)]; omega
theorem wrap_u64 (x : Int) : IntKind.u64.wrap x = x % 18446744073709551616 := rfl
theorem fold_neg (n : Nat) (h : 1 ≤ n) (h' : n ≤ 9223372036854775808) : bits .xor .u64 (IntKind.u64.wrap (IntKind.u64.wrap (-(n : Int)) * 2)) (IntKind.u64.wrap (-(n : Int) / 9223372036854775808)) = ((foldN (-(n : Int)) : Nat) : Int) := by
  have := u64_xor_nat (18446744073709551616 - 2 * n) 18446744073709551615 (by omega) (by decide)
  rw [xor_ones _ (by omega)] at this
  rw [wrap_u64, wrap_u64, wrap_u64, show (-(n : Int) % 18446744073709551616 * 2) % 18446744073709551616 = ((18446744073709551616 - 2 * n : Nat) : Int) from by omega, show (-(n : Int) / 9223372036854775808) % 18446744073709551616 = ((18446744073709551615 : Nat) : Int) from by omega, this]
  unfold foldN; rw [if_neg (by omega)]; omega
set_option maxRecDepth 100000 in
theorem fold_any (n : Int) (w : World) (h0 : -9223372036854775808 ≤ n) (h1 : n ≤ 9223372036854775807) : Calls Tryd.prog 80 #[.int .i64 n] w fun e w' => e = .returned (.int .u64 (foldN n)) ∧ w' = w := by
  by_cases hn : 0 ≤ n
  · obtain ⟨m, rfl⟩ := Int.eq_ofNat_of_zero_le hn
    have hm : m ≤ 9223372036854775807 := by omega
    have H := Lib.hid (fold_pos m hm)
    go_enter Tryd.func80, Tryd.ntmps80
    go_wp2
    go_ret
    exact ⟨by rw [← H.out]; rfl, rfl⟩
  · obtain ⟨m, hm⟩ := Int.eq_ofNat_of_zero_le (show 0 ≤ -n by omega)
    obtain rfl : n = -(m : Int) := by omega
    have hm1 : 1 ≤ m := by omega
    have hm2 : m ≤ 9223372036854775808 := by omega
    have H := Lib.hid (fold_neg m hm1 hm2)
    clear hm hn h0 h1
    go_enter Tryd.func80, Tryd.ntmps80
    go_wp2
    go_ret
    exact ⟨by rw [← H.out]; rfl, rfl⟩
end Go.Proofs.YtckdchkegbdiaaaDoor
