/- A number is read: nums.first, nums.unfold. -/
import Derived.Test.YtcfboalepnbifaaDoorFold
import Derived.Test.YtcfboalepnbifaaDoorBts
namespace Go.Proofs.YtcfboalepnbifaaDoor
open Go Go.RowKit

theorem xor_i64_neg (q : Nat) (h : q ≤ 9223372036854775807) : bits .xor .i64 (q : Int) (-1) = -(q : Int) - 1 := by
  have hm : (BitVec.ofInt 64 (-1)).toNat = 18446744073709551615 := by decide
  have hq : (BitVec.ofInt 64 (q : Int)).toNat = q := by rw [BitVec.toNat_ofInt]; omega
  have key : (BitVec.ofInt 64 (q : Int) ^^^ BitVec.ofInt 64 (-1)).toNat = 18446744073709551615 - q := by
    rw [BitVec.toNat_xor, hm, hq, xor_ones _ (by omega)]
  show IntKind.i64.wrap ((BitVec.ofInt 64 (q : Int) ^^^ BitVec.ofInt 64 (-1)).toNat : Nat) = _
  rw [key, IntKind.wrap_i64]
  omega
theorem xor_i64_zero (q : Nat) (h : q ≤ 9223372036854775807) : bits .xor .i64 (q : Int) 0 = (q : Int) := by
  have hm : (BitVec.ofInt 64 0).toNat = 0 := by decide
  have hq : (BitVec.ofInt 64 (q : Int)).toNat = q := by rw [BitVec.toNat_ofInt]; omega
  have key : (BitVec.ofInt 64 (q : Int) ^^^ BitVec.ofInt 64 0).toNat = q := by
    rw [BitVec.toNat_xor, hm, hq, Nat.xor_zero]
  show IntKind.i64.wrap ((BitVec.ofInt 64 (q : Int) ^^^ BitVec.ofInt 64 0).toNat : Nat) = _
  rw [key, IntKind.wrap_i64]
  omega
theorem and_one64 (r : Nat) (hr : r < 18446744073709551616) : bits .and .u64 (r : Int) 1 = ((r % 2 : Nat) : Int) := by
  have := u64_and_nat r 1 hr (by decide)
  rw [Nat.and_one_is_mod] at this
  exact this
set_option maxRecDepth 100000 in
theorem unfold_any (u : Nat) (w : World) (hu : u < 18446744073709551616) : Calls Tryd.prog 28 #[.int .u64 u] w fun e w' => e = .returned (.int .i64 (unfoldN u)) ∧ w' = w := by
  obtain ⟨q, rfl | rfl⟩ : ∃ q, u = 2 * q ∨ u = 2 * q + 1 := ⟨u / 2, by omega⟩
  · have e : unfoldN (2 * q) = q := by unfold unfoldN; rw [if_pos (by omega)]; omega
    have h1 : bits .and .u64 ((2 * q : Nat) : Int) 1 = 0 := by rw [and_one64 _ hu]; omega
    have h2 := xor_i64_zero q (by omega)
    have h3 : ((2 * q : Nat) : Int) / 2 = q := by omega
    rw [e]
    have HE := Lib.hid e; clear e
    generalize hU : (2 * q : Nat) = U at hu h1 h3 ⊢
    have HU := Lib.hid hU; clear hU
    go_enter Tryd.func28, Tryd.ntmps28
    go_wp2
    go_ret
    exact ⟨rfl, rfl⟩
  · have e : unfoldN (2 * q + 1) = -(q : Int) - 1 := by unfold unfoldN; rw [if_neg (by omega)]; omega
    have h1 : bits .and .u64 ((2 * q + 1 : Nat) : Int) 1 = 1 := by rw [and_one64 _ hu]; omega
    have h2 := xor_i64_neg q (by omega)
    have h3 : ((2 * q + 1 : Nat) : Int) / 2 = q := by omega
    rw [e]
    have HE := Lib.hid e; clear e
    generalize hU : (2 * q + 1 : Nat) = U at hu h1 h3 ⊢
    have HU := Lib.hid hU; clear hU
    go_enter Tryd.func28, Tryd.ntmps28
    go_wp2
    go_ret
    exact ⟨rfl, rfl⟩

theorem two_pow_7 (i : Nat) : 2 ^ (7 * i) = 128 ^ i := by rw [Nat.pow_mul]
theorem pow_top {i : Nat} (h : i ≤ 8) : 128 ^ i ≤ 72057594037927936 := (Nat.pow_le_pow_right (by decide) h : 128 ^ i ≤ 128 ^ 8)
/-- A byte's seven bits, laid above those that were read. -/
theorem or_shift (a y i : Nat) (ha : a < 128 ^ i) (h : i < 9 ∨ i = 9 ∧ y ≤ 1) :
    bits .or .u64 (a : Int) (IntKind.u64.wrap ((y : Int) % 128 * 2 ^ (7 * i))) = ((a + y % 128 * 128 ^ i : Nat) : Int) ∧ a + y % 128 * 128 ^ i < 18446744073709551616 := by
  have hz : y % 128 * 128 ^ i < 18446744073709551616 ∧ a + y % 128 * 128 ^ i < 18446744073709551616 := by
    rcases h with h | ⟨rfl, h⟩
    · have h1 := pow_top (show i ≤ 8 by omega)
      have h2 : y % 128 * 128 ^ i ≤ 127 * 72057594037927936 := Nat.mul_le_mul (by omega) h1
      omega
    · have h2 : y % 128 = y := by omega
      rw [h2]
      have h3 : y = 0 ∨ y = 1 := by omega
      rcases h3 with rfl | rfl
      · simp at ha ⊢; omega
      · simp at ha ⊢; omega
  refine ⟨?_, hz.2⟩
  have e1 : ((y : Int) % 128 * 2 ^ (7 * i)) = ((y % 128 * 128 ^ i : Nat) : Int) := by
    rw [← two_pow_7 i]; simp
  have e2 : IntKind.u64.wrap ((y : Int) % 128 * 2 ^ (7 * i)) = ((y % 128 * 128 ^ i : Nat) : Int) := by
    rw [e1, wrap_u64]
    have := hz.1
    generalize y % 128 * 128 ^ i = q at this
    omega
  have ha64 : a < 18446744073709551616 := by have := hz.2; omega
  rw [e2, u64_or_nat _ _ ha64 hz.1, ← two_pow_7 i] 
  rw [← two_pow_7 i] at ha
  rw [Nat.or_comm, Nat.mul_comm, ← Nat.two_pow_add_eq_or_of_lt ha, Nat.add_comm]
/-- What first tells. -/
def gotV : Got → Value
  | .bad c => .tuple #[.int .u64 0, .int .i64 0, .int .i64 c]
  | .num u k => .tuple #[.int .u64 u, .int .i64 k, .int .i64 0]
theorem num_end (S T i : Nat) (c : Int) (h : S = T) (hc : c = ((i + 1 : Nat) : Int)) : Ending.returned (.tuple #[.int .u64 S, .int .i64 c, .int .i64 0]) = Ending.returned (gotV (.num T (i + 1))) := by
  subst h hc; rfl
set_option maxHeartbeats 2000000 in
set_option maxRecDepth 100000 in
theorem first_any (s : ByteArray) (w : World) (hs : s.size ≤ 1000000) : Calls Tryd.prog 27 #[.string s] w fun e w' => e = .returned (gotV (rd 0 0 (bts s))) ∧ w' = w := by
  generalize hG : rd 0 0 (bts s) = G
  have HG := Lib.hid hG; clear hG
  go_enter Tryd.func27, Tryd.ntmps27
  go_wp2
  go_step3
  go_wp2
  go_step3
  go_wp2
  go_loopg [2, 3] 10 (fun k f c wr => ∃ (i a : Nat), Hid (i + k = 10) ∧ f = .int .u64 a ∧ c = .int .i64 i ∧ Hid (i ≤ s.size ∧ a < 128 ^ i ∧ rd i a ((bts s).drop i) = G ∧ i ≤ 9) ∧ wr = w)
  case atStart => exact ⟨0, 0, rfl, rfl, rfl, ⟨Nat.zero_le _, by decide, HG.out, by decide⟩, rfl⟩
  case round =>
    obtain ⟨i, a, hi, rfl, rfl, hinv, rfl⟩ := hrel
    have hsz := hinv.out.1
    have hpa := hinv.out.2.1
    by_cases hlt : i < s.size
    · have hY : s[i].toNat < 256 := s[i].toNat_lt
      have hne : ((i : Int) == (s.size : Int)) = false := by simp; omega
      have hand : bits .andNot .u8 ((s[i].toNat : Nat) : Int) 128 = ((s[i].toNat % 128 : Nat) : Int) := by
        have := u8_andNot_nat s[i].toNat 128 hY (by decide)
        rw [show (255 - 128 : Nat) = 2 ^ 7 - 1 from rfl, Nat.and_two_pow_sub_one_eq_mod] at this
        exact this
      have hstep : (if (i = 9 ∧ 1 < s[i].toNat) ∨ (0 < i ∧ s[i].toNat = 0) then Got.bad 10 else if s[i].toNat < 128 then .num (a + s[i].toNat * 128 ^ i) (i + 1) else rd (i + 1) (a + (s[i].toNat - 128) * 128 ^ i) ((bts s).drop (i + 1))) = G := by
        have h1 := hinv.out.2.2.1
        rw [List.drop_eq_getElem_cons (by rw [bts_len]; exact hlt)] at h1
        exact h1
      have hi9 := hinv.out.2.2.2
      obtain ⟨y, hy⟩ : ∃ y, s[i].toNat = y := ⟨_, rfl⟩
      rw [hy] at hY hand hstep
      have HS := Lib.hid hstep; clear hstep
      by_cases hb : (i = 9 ∧ 1 < y) ∨ (0 < i ∧ y = 0)
      · have hG := HS.out
        rw [if_pos hb] at hG
        have HG2 := Lib.hid hG; clear hG
        clear hpa
        by_cases h9 : i = 9 ∧ 1 < y
        · obtain ⟨rfl, hy1⟩ := h9
          clear hb
          go_wp2
          try rw [Exit.noGoto_ret]
          go_ret3
          exact ⟨by rw [← HG2.out]; rfl, rfl⟩
        · have hb2 : 0 < i ∧ y = 0 := by omega
          obtain ⟨hi0, rfl⟩ := hb2
          clear hb h9 HS
          by_cases h9 : i = 9
          · subst h9
            go_wp2
            try rw [Exit.noGoto_ret]
            go_ret3
            exact ⟨by rw [← HG2.out]; rfl, rfl⟩
          · have h10 : ((i : Int) + 1 == 10) = false := by simp; omega
            have h11 : (1 : Int) < (i : Int) + 1 := by omega
            go_wp2
            try rw [Exit.noGoto_ret]
            go_ret3
            exact ⟨by rw [← HG2.out]; rfl, rfl⟩
      · have hgood : i < 9 ∨ i = 9 ∧ y ≤ 1 := by omega
        have hor := or_shift a y i hpa hgood
        have hG := HS.out
        rw [if_neg hb] at hG
        clear HS
        obtain ⟨S, hS⟩ : ∃ S, S = a + y % 128 * 128 ^ i := ⟨_, rfl⟩
        rw [← hS] at hor
        have hor1 := hor.1
        have hSl := hor.2
        have HOR := Lib.hid (And.intro hS hpa); clear hS hpa hor
        by_cases h128 : y < 128
        · rw [if_pos h128] at hG
          have hmod : y % 128 = y := Nat.mod_eq_of_lt h128
          have HG2 := Lib.hid (And.intro hG hmod); clear hG hmod
          have hy0 : ¬ (1 : Int) < (i : Int) + 1 ∨ ((y : Int) == 0) = false := by
            rcases Nat.eq_zero_or_pos i with h | h
            · left; omega
            · right; simp; omega
          have HB := Lib.hid hb; clear hb
          rcases hgood with h9 | ⟨h9, hy1⟩
          · have h10 : ((i : Int) + 1 == 10) = false := by simp; omega
            rcases hy0 with hy0 | hy0
            · go_wp2
              all_goals (try rw [Exit.noGoto_ret])
              all_goals go_ret3
              all_goals exact ⟨by rw [← HG2.out.1]; exact num_end _ _ _ _ (by rw [HOR.out.1, HG2.out.2]) (by simp), rfl⟩
            · go_wp2
              all_goals (try rw [Exit.noGoto_ret])
              all_goals go_ret3
              all_goals exact ⟨by rw [← HG2.out.1]; exact num_end _ _ _ _ (by rw [HOR.out.1, HG2.out.2]) (by simp), rfl⟩
          · have h10 : ((i : Int) + 1 == 10) = true := by simp; omega
            have h11 : ¬ (1 : Int) < (y : Int) := by omega
            have H9 := Lib.hid h9; clear h9
            rcases hy0 with hy0 | hy0
            · go_wp2
              all_goals (try rw [Exit.noGoto_ret])
              all_goals go_ret3
              all_goals exact ⟨by rw [← HG2.out.1]; exact num_end _ _ _ _ (by rw [HOR.out.1, HG2.out.2]) (by simp), rfl⟩
            · go_wp2
              all_goals (try rw [Exit.noGoto_ret])
              all_goals go_ret3
              all_goals exact ⟨by rw [← HG2.out.1]; exact num_end _ _ _ _ (by rw [HOR.out.1, HG2.out.2]) (by simp), rfl⟩
        · rw [if_neg h128] at hG
          have h9 : i < 9 := by omega
          have h10 : ((i : Int) + 1 == 10) = false := by simp; omega
          have hy0 : ((y : Int) == 0) = false := by simp; omega
          have hnx : S < 128 ^ (i + 1) ∧ S = a + (y - 128) * 128 ^ i := by
            rw [HOR.out.1, show y - 128 = y % 128 from by omega, Nat.pow_succ]
            refine ⟨?_, rfl⟩
            have h1 : y % 128 * 128 ^ i ≤ 127 * 128 ^ i := Nat.mul_le_mul_right _ (by omega)
            have h2 := HOR.out.2
            generalize 128 ^ i = q at h1 h2
            omega
          have HG2 := Lib.hid (And.intro hG hnx); clear hG hnx hb hgood
          go_wp2
          all_goals
            go_roundg (gk - 1)
            case measure => have := hi.out; omega
            case rel =>
              refine ⟨i + 1, S, ?_, rfl, by go_num, ⟨by omega, HG2.out.2.1, ?_, by omega⟩, rfl⟩
              · show i + 1 + (gk - 1) = 10
                have := hi.out; omega
              · rw [HG2.out.2.2]; exact HG2.out.1
    · have hz : i = s.size := by omega
      have hne : ((i : Int) == (s.size : Int)) = true := by simp; omega
      have HZ := Lib.hid hz; clear hz hpa hsz
      go_wp2
      rw [Exit.noGoto_ret]
      go_ret3
      refine ⟨?_, rfl⟩
      have h1 := hinv.out.2.2.1
      rw [List.drop_of_length_le (by rw [bts_len, HZ.out]; omega), rd] at h1
      rw [← h1]; rfl
end Go.Proofs.YtcfboalepnbifaaDoor
