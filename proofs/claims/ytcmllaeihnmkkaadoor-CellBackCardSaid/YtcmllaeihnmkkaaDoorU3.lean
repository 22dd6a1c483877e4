/- A text's bytes. · A number is read: nums.first, nums.unfold. · A row in memory: what it has, where it stands, its code; and the calls that only tell. · A row's numbers are read: Num, Count. -/
import Derived.Test.YtcmllaeihnmkkaaDoorU1
import Derived.Test.YtcmllaeihnmkkaaDoorU2
import Derived.WalkKit
import Derived.Deep.RegionHeld3
import Derived.Deep.QuietTactic
import Derived.BigQuiet
namespace Go.Proofs.YtcmllaeihnmkkaaDoor
open Go Go.RowKit

def bts (s : ByteArray) : List UInt8 := s.data.toList
theorem bts_len (s : ByteArray) : (bts s).length = s.size := by unfold bts; rw [Array.length_toList]; rfl
theorem bts_at (s : ByteArray) (j : Nat) (h : j < s.size) : (bts s)[j]? = some s[j] := by
  unfold bts
  rw [Array.getElem?_toList]
  exact Array.getElem?_eq_getElem (xs := s.data) h
theorem bts_append (x y : ByteArray) : bts (x ++ y) = bts x ++ bts y := by
  unfold bts
  rw [ByteArray.data_append, Array.toList_append]
theorem bts_mk (l : List UInt8) : bts ⟨l.toArray⟩ = l := by simp [bts]
theorem size_mk (l : List UInt8) : (⟨l.toArray⟩ : ByteArray).size = l.length := by rw [← bts_len, bts_mk]
theorem ba_ext {a b : ByteArray} (h : bts a = bts b) : a = b := by
  apply ByteArray.ext
  exact Array.toList_inj.1 h
theorem mk_bts (s : ByteArray) : (⟨(bts s).toArray⟩ : ByteArray) = s := ba_ext (bts_mk _)
theorem mk_append (a b : List UInt8) : (⟨a.toArray⟩ : ByteArray) ++ ⟨b.toArray⟩ = ⟨(a ++ b).toArray⟩ := by
  apply ba_ext
  rw [bts_append, bts_mk, bts_mk, bts_mk]
theorem bts_extract (s : ByteArray) (i j : Nat) : bts (s.extract i j) = ((bts s).take j).drop i := by
  unfold bts
  rw [ByteArray.data_extract, Array.toList_extract]
  simp [List.drop_take]
def shortOf (s : ByteArray) (n : Nat) : ByteArray := if n < s.size then s.extract 0 n else s
theorem shortOf_le (s : ByteArray) (n : Nat) : (shortOf s n).size ≤ n := by
  unfold shortOf
  split
  · rw [ByteArray.size_extract]; omega
  · omega
end Go.Proofs.YtcmllaeihnmkkaaDoor
namespace Go.Proofs.YtcmllaeihnmkkaaDoor
open Go Go.RowKit

theorem xor_i64_neg (q : Nat) (h : q ≤ 9223372036854775807) : bits .xor .i64 (q : Int) (-1) = -(q : Int) - 1 := by
  have hm : (BitVec.ofInt 64 (-1)).toNat = 18446744073709551615 := by decide
  have hq : (BitVec.ofInt 64 (q : Int)).toNat = q := by rw [BitVec.toNat_ofInt]; omega
  have key : (BitVec.ofInt 64 (q : Int) ^^^ BitVec.ofInt 64 (-1)).toNat = 18446744073709551615 - q := by
    rw [BitVec.toNat_xor, hm, hq, xor_ones _ (by omega)]
  show IntKind.i64.wrap ((BitVec.ofInt 64 (q : Int) ^^^ BitVec.ofInt 64 (-1)).toNat : Nat) = _
  rw [key, IntKind.wrap_i64]
  omega
theorem xor_i64_zero (q : Nat) (h : q ≤ 9223372036854775807) : bits .xor .i64 (q : Int) 0 = (q : Int) := by
  have hm : (BitVec.ofInt 64 0).toNat = 0 := by decide
  have hq : (BitVec.ofInt 64 (q : Int)).toNat = q := by rw [BitVec.toNat_ofInt]; omega
  have key : (BitVec.ofInt 64 (q : Int) ^^^ BitVec.ofInt 64 0).toNat = q := by
    rw [BitVec.toNat_xor, hm, hq, Nat.xor_zero]
  show IntKind.i64.wrap ((BitVec.ofInt 64 (q : Int) ^^^ BitVec.ofInt 64 0).toNat : Nat) = _
  rw [key, IntKind.wrap_i64]
  omega
theorem and_one64 (r : Nat) (hr : r < 18446744073709551616) : bits .and .u64 (r : Int) 1 = ((r % 2 : Nat) : Int) := by
  have := u64_and_nat r 1 hr (by decide)
  rw [Nat.and_one_is_mod] at this
  exact this
set_option maxRecDepth 100000 in
theorem unfold_any (u : Nat) (w : World) (hu : u < 18446744073709551616) : Calls Tryd.prog 141 #[.int .u64 u] w fun e w' => e = .returned (.int .i64 (unfoldN u)) ∧ w' = w := by
  obtain ⟨q, rfl | rfl⟩ : ∃ q, u = 2 * q ∨ u = 2 * q + 1 := ⟨u / 2, by omega⟩
  · have e : unfoldN (2 * q) = q := by unfold unfoldN; rw [if_pos (by omega)]; omega
    have h1 : bits .and .u64 ((2 * q : Nat) : Int) 1 = 0 := by rw [and_one64 _ hu]; omega
    have h2 := xor_i64_zero q (by omega)
    have h3 : ((2 * q : Nat) : Int) / 2 = q := by omega
    rw [e]
    have HE := Lib.hid e; clear e
    generalize hU : (2 * q : Nat) = U at hu h1 h3 ⊢
    have HU := Lib.hid hU; clear hU
    go_enter Tryd.func141, Tryd.ntmps141
    go_wp2
    go_ret
    exact ⟨rfl, rfl⟩
  · have e : unfoldN (2 * q + 1) = -(q : Int) - 1 := by unfold unfoldN; rw [if_neg (by omega)]; omega
    have h1 : bits .and .u64 ((2 * q + 1 : Nat) : Int) 1 = 1 := by rw [and_one64 _ hu]; omega
    have h2 := xor_i64_neg q (by omega)
    have h3 : ((2 * q + 1 : Nat) : Int) / 2 = q := by omega
    rw [e]
    have HE := Lib.hid e; clear e
    generalize hU : (2 * q + 1 : Nat) = U at hu h1 h3 ⊢
    have HU := Lib.hid hU; clear hU
    go_enter Tryd.func141, Tryd.ntmps141
    go_wp2
    go_ret
    exact ⟨rfl, rfl⟩

theorem two_pow_7 (i : Nat) : 2 ^ (7 * i) = 128 ^ i := by rw [Nat.pow_mul]
theorem pow_top {i : Nat} (h : i ≤ 8) : 128 ^ i ≤ 72057594037927936 := (Nat.pow_le_pow_right (by decide) h : 128 ^ i ≤ 128 ^ 8)
/-- A byte's seven bits, laid above those that were read. -/
theorem or_shift (a y i : Nat) (ha : a < 128 ^ i) (h : i < 9 ∨ i = 9 ∧ y ≤ 1) :
    bits .or .u64 (a : Int) (IntKind.u64.wrap ((y : Int) % 128 * 2 ^ (7 * i))) = ((a + y % 128 * 128 ^ i : Nat) : Int) ∧ a + y % 128 * 128 ^ i < 18446744073709551616 := by
  have hz : y % 128 * 128 ^ i < 18446744073709551616 ∧ a + y % 128 * 128 ^ i < 18446744073709551616 := by
    rcases h with h | ⟨rfl, h⟩
    · have h1 := pow_top (show i ≤ 8 by omega)
      have h2 : y % 128 * 128 ^ i ≤ 127 * 72057594037927936 := Nat.mul_le_mul (by omega) h1
      omega
    · have h2 : y % 128 = y := by omega
      rw [h2]
      have h3 : y = 0 ∨ y = 1 := by omega
      rcases h3 with rfl | rfl
      · simp at ha ⊢; omega
      · simp at ha ⊢; omega
  refine ⟨?_, hz.2⟩
  have e1 : ((y : Int) % 128 * 2 ^ (7 * i)) = ((y % 128 * 128 ^ i : Nat) : Int) := by
    rw [← two_pow_7 i]; simp
  have e2 : IntKind.u64.wrap ((y : Int) % 128 * 2 ^ (7 * i)) = ((y % 128 * 128 ^ i : Nat) : Int) := by
    rw [e1, wrap_u64]
    have := hz.1
    generalize y % 128 * 128 ^ i = q at this
    omega
  have ha64 : a < 18446744073709551616 := by have := hz.2; omega
  rw [e2, u64_or_nat _ _ ha64 hz.1, ← two_pow_7 i] 
  rw [← two_pow_7 i] at ha
  rw [Nat.or_comm, Nat.mul_comm, ← Nat.two_pow_add_eq_or_of_lt ha, Nat.add_comm]
/-- What first tells. -/
def gotV : Got → Value
  | .bad c => .tuple #[.int .u64 0, .int .i64 0, .int .i64 c]
  | .num u k => .tuple #[.int .u64 u, .int .i64 k, .int .i64 0]
theorem num_end (S T i : Nat) (c : Int) (h : S = T) (hc : c = ((i + 1 : Nat) : Int)) : Ending.returned (.tuple #[.int .u64 S, .int .i64 c, .int .i64 0]) = Ending.returned (gotV (.num T (i + 1))) := by
  subst h hc; rfl
set_option maxHeartbeats 2000000 in
set_option maxRecDepth 100000 in
theorem first_any (s : ByteArray) (w : World) (hs : s.size ≤ 1000000) : Calls Tryd.prog 140 #[.string s] w fun e w' => e = .returned (gotV (rd 0 0 (bts s))) ∧ w' = w := by
  generalize hG : rd 0 0 (bts s) = G
  have HG := Lib.hid hG; clear hG
  go_enter Tryd.func140, Tryd.ntmps140
  go_wp2
  go_step3
  go_wp2
  go_step3
  go_wp2
  go_loopg [2, 3] 10 (fun k f c wr => ∃ (i a : Nat), Hid (i + k = 10) ∧ f = .int .u64 a ∧ c = .int .i64 i ∧ Hid (i ≤ s.size ∧ a < 128 ^ i ∧ rd i a ((bts s).drop i) = G ∧ i ≤ 9) ∧ wr = w)
  case atStart => exact ⟨0, 0, rfl, rfl, rfl, ⟨Nat.zero_le _, by decide, HG.out, by decide⟩, rfl⟩
  case round =>
    obtain ⟨i, a, hi, rfl, rfl, hinv, rfl⟩ := hrel
    have hsz := hinv.out.1
    have hpa := hinv.out.2.1
    by_cases hlt : i < s.size
    · have hY : s[i].toNat < 256 := s[i].toNat_lt
      have hne : ((i : Int) == (s.size : Int)) = false := by simp; omega
      have hand : bits .andNot .u8 ((s[i].toNat : Nat) : Int) 128 = ((s[i].toNat % 128 : Nat) : Int) := by
        have := u8_andNot_nat s[i].toNat 128 hY (by decide)
        rw [show (255 - 128 : Nat) = 2 ^ 7 - 1 from rfl, Nat.and_two_pow_sub_one_eq_mod] at this
        exact this
      have hstep : (if (i = 9 ∧ 1 < s[i].toNat) ∨ (0 < i ∧ s[i].toNat = 0) then Got.bad 10 else if s[i].toNat < 128 then .num (a + s[i].toNat * 128 ^ i) (i + 1) else rd (i + 1) (a + (s[i].toNat - 128) * 128 ^ i) ((bts s).drop (i + 1))) = G := by
        have h1 := hinv.out.2.2.1
        rw [List.drop_eq_getElem_cons (by rw [bts_len]; exact hlt)] at h1
        exact h1
      have hi9 := hinv.out.2.2.2
      obtain ⟨y, hy⟩ : ∃ y, s[i].toNat = y := ⟨_, rfl⟩
      rw [hy] at hY hand hstep
      have HS := Lib.hid hstep; clear hstep
      by_cases hb : (i = 9 ∧ 1 < y) ∨ (0 < i ∧ y = 0)
      · have hG := HS.out
        rw [if_pos hb] at hG
        have HG2 := Lib.hid hG; clear hG
        clear hpa
        by_cases h9 : i = 9 ∧ 1 < y
        · obtain ⟨rfl, hy1⟩ := h9
          clear hb
          go_wp2
          try rw [Exit.noGoto_ret]
          go_ret3
          exact ⟨by rw [← HG2.out]; rfl, rfl⟩
        · have hb2 : 0 < i ∧ y = 0 := by omega
          obtain ⟨hi0, rfl⟩ := hb2
          clear hb h9 HS
          by_cases h9 : i = 9
          · subst h9
            go_wp2
            try rw [Exit.noGoto_ret]
            go_ret3
            exact ⟨by rw [← HG2.out]; rfl, rfl⟩
          · have h10 : ((i : Int) + 1 == 10) = false := by simp; omega
            have h11 : (1 : Int) < (i : Int) + 1 := by omega
            go_wp2
            try rw [Exit.noGoto_ret]
            go_ret3
            exact ⟨by rw [← HG2.out]; rfl, rfl⟩
      · have hgood : i < 9 ∨ i = 9 ∧ y ≤ 1 := by omega
        have hor := or_shift a y i hpa hgood
        have hG := HS.out
        rw [if_neg hb] at hG
        clear HS
        obtain ⟨S, hS⟩ : ∃ S, S = a + y % 128 * 128 ^ i := ⟨_, rfl⟩
        rw [← hS] at hor
        have hor1 := hor.1
        have hSl := hor.2
        have HOR := Lib.hid (And.intro hS hpa); clear hS hpa hor
        by_cases h128 : y < 128
        · rw [if_pos h128] at hG
          have hmod : y % 128 = y := Nat.mod_eq_of_lt h128
          have HG2 := Lib.hid (And.intro hG hmod); clear hG hmod
          have hy0 : ¬ (1 : Int) < (i : Int) + 1 ∨ ((y : Int) == 0) = false := by
            rcases Nat.eq_zero_or_pos i with h | h
            · left; omega
            · right; simp; omega
          have HB := Lib.hid hb; clear hb
          rcases hgood with h9 | ⟨h9, hy1⟩
          · have h10 : ((i : Int) + 1 == 10) = false := by simp; omega
            rcases hy0 with hy0 | hy0
            · go_wp2
              all_goals (try rw [Exit.noGoto_ret])
              all_goals go_ret3
              all_goals exact ⟨by rw [← HG2.out.1]; exact num_end _ _ _ _ (by rw [HOR.out.1, HG2.out.2]) (by simp), rfl⟩
            · go_wp2
              all_goals (try rw [Exit.noGoto_ret])
              all_goals go_ret3
              all_goals exact ⟨by rw [← HG2.out.1]; exact num_end _ _ _ _ (by rw [HOR.out.1, HG2.out.2]) (by simp), rfl⟩
          · have h10 : ((i : Int) + 1 == 10) = true := by simp; omega
            have h11 : ¬ (1 : Int) < (y : Int) := by omega
            have H9 := Lib.hid h9; clear h9
            rcases hy0 with hy0 | hy0
            · go_wp2
              all_goals (try rw [Exit.noGoto_ret])
              all_goals go_ret3
              all_goals exact ⟨by rw [← HG2.out.1]; exact num_end _ _ _ _ (by rw [HOR.out.1, HG2.out.2]) (by simp), rfl⟩
            · go_wp2
              all_goals (try rw [Exit.noGoto_ret])
              all_goals go_ret3
              all_goals exact ⟨by rw [← HG2.out.1]; exact num_end _ _ _ _ (by rw [HOR.out.1, HG2.out.2]) (by simp), rfl⟩
        · rw [if_neg h128] at hG
          have h9 : i < 9 := by omega
          have h10 : ((i : Int) + 1 == 10) = false := by simp; omega
          have hy0 : ((y : Int) == 0) = false := by simp; omega
          have hnx : S < 128 ^ (i + 1) ∧ S = a + (y - 128) * 128 ^ i := by
            rw [HOR.out.1, show y - 128 = y % 128 from by omega, Nat.pow_succ]
            refine ⟨?_, rfl⟩
            have h1 : y % 128 * 128 ^ i ≤ 127 * 128 ^ i := Nat.mul_le_mul_right _ (by omega)
            have h2 := HOR.out.2
            generalize 128 ^ i = q at h1 h2
            omega
          have HG2 := Lib.hid (And.intro hG hnx); clear hG hnx hb hgood
          go_wp2
          all_goals
            go_roundg (gk - 1)
            case measure => have := hi.out; omega
            case rel =>
              refine ⟨i + 1, S, ?_, rfl, by go_num, ⟨by omega, HG2.out.2.1, ?_, by omega⟩, rfl⟩
              · show i + 1 + (gk - 1) = 10
                have := hi.out; omega
              · rw [HG2.out.2.2]; exact HG2.out.1
    · have hz : i = s.size := by omega
      have hne : ((i : Int) == (s.size : Int)) = true := by simp; omega
      have HZ := Lib.hid hz; clear hz hpa hsz
      go_wp2
      rw [Exit.noGoto_ret]
      go_ret3
      refine ⟨?_, rfl⟩
      have h1 := hinv.out.2.2.1
      rw [List.drop_of_length_le (by rw [bts_len, HZ.out]; omega), rd] at h1
      rw [← h1]; rfl
end Go.Proofs.YtcmllaeihnmkkaaDoor
namespace Go.Proofs.YtcmllaeihnmkkaaDoor
open Go Go.RowKit

def RowAt (w : World) (g : Nat) (s : ByteArray) (p : Nat) (c : Int) : Prop := Blk w g 91 #[.string s, .int .i64 p, .int .i64 c]
theorem RowAt.drew {w : World} {g : Nat} {s : ByteArray} {p : Nat} {c : Int} (h : RowAt w g s p c) : RowAt w.drew g s p c := h
theorem RowAt.drewN {w : World} {g : Nat} {s : ByteArray} {p : Nat} {c : Int} (h : RowAt w g s p c) (n : Nat) : RowAt (w.drewN n) g s p c := h
theorem RowAt.ext {w w' : World} {g : Nat} {s : ByteArray} {p : Nat} {c : Int} (h : RowAt w g s p c) (hx : Ext w w') : RowAt w' g s p c := Blk.ext h hx
theorem RowAt.only {w w' : World} {g b : Nat} {s : ByteArray} {p : Nat} {c : Int} (h : RowAt w g s p c) (hx : Only b w w') (hne : g ≠ b) : RowAt w' g s p c := Blk.only h hx hne
/-- The fault that a row tells. -/
def errV (c p : Int) : Value := if c = 0 then .nilIface else .iface 143 (.agg #[.iface 34 (.int .i64 c), .int .i64 p, .bool false])
theorem errV_ok (p : Int) : errV 0 p = .nilIface := if_pos rfl
theorem errV_bad {c : Int} (p : Int) (h : c ≠ 0) : errV c p = .iface 143 (.agg #[.iface 34 (.int .i64 c), .int .i64 p, .bool false]) := if_neg h

set_option maxRecDepth 100000 in
theorem Of_any (s : ByteArray) (w : World) (hs : s.size ≤ 1000000) : Calls Tryd.prog 15 #[.string s] w fun e w' => ∃ g, e = .returned (.pointer (some ⟨g, 0, none⟩)) ∧ RowAt w' g s 0 0 ∧ Ext w w' ∧ w.heap.size ≤ g := by
  go_enter Tryd.func15, Tryd.ntmps15
  go_wp2_with fail
  refine (strings_Clone s w (by omega)).mono ?_
  rintro e w2 ⟨rfl, hx⟩
  have H := Lib.hid hx; clear hx
  go_wp2
  go_ret
  exact ⟨_, rfl, Go.heap_alloc_new _ _, H.out.alloc _, H.out.size⟩
theorem ext_drewN {w : World} (n : Nat) : Ext w (w.drewN n) := (Ext.refl w).drewN n
set_option maxRecDepth 100000 in
theorem Err_ok (w : World) (g : Nat) (s : ByteArray) (p : Nat) (h : RowAt w g s p 0) : Calls Tryd.prog 21 #[.pointer (some ⟨g, 0, none⟩)] w fun e w' => e = .returned .nilIface ∧ Ext w w' := by
  have c1 : w.cell? ⟨g, 1, none⟩ = some (.int .i64 p) := h.cell 1
  have c2 : w.cell? ⟨g, 2, none⟩ = some (.int .i64 0) := h.cell 2
  have H := Lib.hid h; clear h
  go_enter Tryd.func21, Tryd.ntmps21
  go_wp2
  go_quiet ((first | (go_at_call 66; exact Calls.quiet_of_same (new_ok _)) | (go_at_call 67; exact Calls.quiet_of_same (at_nil _ _))))
  go_wp2
  go_ret
  exact ⟨rfl, ext_drewN _⟩
set_option maxRecDepth 100000 in
theorem Err_bad (w : World) (g : Nat) (s : ByteArray) (p : Nat) (c : Int) (hc : c ≠ 0) (h : RowAt w g s p c) : Calls Tryd.prog 21 #[.pointer (some ⟨g, 0, none⟩)] w fun e w' => e = .returned (.iface 143 (.agg #[.iface 34 (.int .i64 c), .int .i64 p, .bool false])) ∧ Ext w w' := by
  have c1 : w.cell? ⟨g, 1, none⟩ = some (.int .i64 p) := h.cell 1
  have c2 : w.cell? ⟨g, 2, none⟩ = some (.int .i64 c) := h.cell 2
  have H := Lib.hid h; clear h
  go_enter Tryd.func21, Tryd.ntmps21
  go_wp2
  go_quiet ((first | (go_at_call 66; exact Calls.quiet_of_same (new_code c _ hc)) | (go_at_call 67; exact Calls.quiet_of_same (at_code c _ _))))
  go_wp2
  go_ret
  exact ⟨rfl, ext_drewN _⟩
set_option maxRecDepth 100000 in
theorem Err_nil (w : World) : Calls Tryd.prog 21 #[.pointer none] w fun e w' => e = .returned (.iface 34 (.int .i64 10)) ∧ w' = w := by
  go_enter Tryd.func21, Tryd.ntmps21
  go_wp2_with fail
  refine (new_code 10 w (by decide)).mono ?_
  rintro e w2 ⟨rfl, rfl⟩
  go_wp2
  go_ret
  exact ⟨rfl, rfl⟩
theorem At_row (w : World) (g : Nat) (s : ByteArray) (p : Nat) (c : Int) (h : RowAt w g s p c) : Calls Tryd.prog 19 #[.pointer (some ⟨g, 0, none⟩)] w fun e w' => e = .returned (.int .i64 p) ∧ w' = w := by
  have c1 : w.cell? ⟨g, 1, none⟩ = some (.int .i64 p) := h.cell 1
  have H := Lib.hid h; clear h
  go_enter Tryd.func19, Tryd.ntmps19
  go_wp2
  go_ret
  exact ⟨rfl, rfl⟩
theorem At_none (w : World) : Calls Tryd.prog 19 #[.pointer none] w fun e w' => e = .returned (.int .i64 0) ∧ w' = w := by
  go_enter Tryd.func19, Tryd.ntmps19
  go_wp2
  go_ret
  exact ⟨rfl, rfl⟩
theorem Fail_ok (w : World) (g : Nat) (s : ByteArray) (p : Nat) (c : Int) (h : RowAt w g s p 0) : Calls Tryd.prog 53 #[.pointer (some ⟨g, 0, none⟩), .int .i64 c] w fun e w' => e = .returned (.tuple #[]) ∧ RowAt w' g s p c ∧ Only g w w' := by
  have H := Lib.hid h; clear h
  go_enter Tryd.func53, Tryd.ntmps53
  go_wp2_with fail
  refine (Err_ok w g s p H.out).mono ?_
  rintro e w2 ⟨rfl, hx⟩
  have h2 := H.out.ext hx
  have c2 : w2.cell? ⟨g, 2, none⟩ = some (.int .i64 0) := h2.cell 2
  have f2 := h2.frozen 2
  have H2 := Lib.hid (And.intro h2 hx); clear h2 hx
  go_wp2
  go_end0
  exact ⟨rfl, H2.out.1.set_ 2 _, (Only.of_ext H2.out.2).setCell _⟩
theorem Fail_bad (w : World) (g : Nat) (s : ByteArray) (p : Nat) (c : Int) (v : Value) (hc : c ≠ 0) (h : RowAt w g s p c) : Calls Tryd.prog 53 #[.pointer (some ⟨g, 0, none⟩), v] w fun e w' => e = .returned (.tuple #[]) ∧ Ext w w' := by
  have H := Lib.hid h; clear h
  go_enter Tryd.func53, Tryd.ntmps53
  go_wp2_with fail
  refine (Err_bad w g s p c hc H.out).mono ?_
  rintro e w2 ⟨rfl, hx⟩
  have HX := Lib.hid hx; clear hx
  go_wp2
  go_end0
  exact ⟨rfl, HX.out⟩
theorem Fail_none (v : Value) (w : World) : Calls Tryd.prog 53 #[.pointer none, v] w fun e w' => e = .returned (.tuple #[]) ∧ w' = w := by
  go_enter Tryd.func53, Tryd.ntmps53
  go_wp2_with fail
  refine (Err_nil w).mono ?_
  rintro e w2 ⟨rfl, rfl⟩
  go_wp2
  go_end0
  exact ⟨rfl, rfl⟩
end Go.Proofs.YtcmllaeihnmkkaaDoor
namespace Go.Proofs.YtcmllaeihnmkkaaDoor
open Go Go.RowKit

/-- What Num tells, how far it goes, and with which code it ends. -/
def numGot (lo hi : Int) : Got → Int × Nat × Int
  | .bad c => (0, 0, c)
  | .num u k => if unfoldN u < lo ∨ hi < unfoldN u then (0, 0, 16) else (unfoldN u, k, 0)
def numAt (s : ByteArray) (p : Nat) (lo hi : Int) : Int × Nat × Int := numGot lo hi (rd 0 0 ((bts s).drop p))
theorem first_bad (s : ByteArray) (w : World) (c : Int) (hs : s.size ≤ 1000000) (h : rd 0 0 (bts s) = .bad c) : Calls Tryd.prog 140 #[.string s] w fun e w' => e = .returned (.tuple #[.int .u64 0, .int .i64 0, .int .i64 c]) ∧ w' = w := by
  have := first_any s w hs
  rw [h] at this
  exact this
theorem first_num (s : ByteArray) (w : World) (u k : Nat) (hs : s.size ≤ 1000000) (h : rd 0 0 (bts s) = .num u k) : Calls Tryd.prog 140 #[.string s] w fun e w' => e = .returned (.tuple #[.int .u64 u, .int .i64 k, .int .i64 0]) ∧ w' = w := by
  have := first_any s w hs
  rw [h] at this
  exact this
theorem bts_from (s : ByteArray) (p : Nat) : bts (s.extract p s.size) = (bts s).drop p := by
  rw [bts_extract, ← bts_len, List.take_length]
set_option maxRecDepth 100000 in
theorem Num_failed (w : World) (g : Nat) (s : ByteArray) (p : Nat) (c lo hi : Int) (hc : c ≠ 0) (h : RowAt w g s p c) : Calls Tryd.prog 131 #[.pointer (some ⟨g, 0, none⟩), .int .i64 lo, .int .i64 hi] w fun e w' => e = .returned (.int .i64 0) ∧ Ext w w' := by
  have H := Lib.hid h; clear h
  go_enter Tryd.func131, Tryd.ntmps131
  go_wp2_with fail
  refine (Err_bad w g s p c hc H.out).mono ?_
  rintro e w2 ⟨rfl, hx⟩
  have HX := Lib.hid hx; clear hx
  go_wp2
  go_ret
  exact ⟨rfl, HX.out⟩
theorem Num_none (w : World) (a b : Value) : Calls Tryd.prog 131 #[.pointer none, a, b] w fun e w' => e = .returned (.int .i64 0) ∧ w' = w := by
  go_enter Tryd.func131, Tryd.ntmps131
  go_wp2_with fail
  refine (Err_nil w).mono ?_
  rintro e w2 ⟨rfl, rfl⟩
  go_wp2
  go_ret
  exact ⟨rfl, rfl⟩
set_option maxHeartbeats 2000000 in
set_option maxRecDepth 100000 in
theorem Num_at (w : World) (g : Nat) (s : ByteArray) (p : Nat) (lo hi : Int) (hs : s.size ≤ 1000000) (hp : p ≤ s.size) (h : RowAt w g s p 0) :
    Calls Tryd.prog 131 #[.pointer (some ⟨g, 0, none⟩), .int .i64 lo, .int .i64 hi] w fun e w' => e = .returned (.int .i64 (numAt s p lo hi).1) ∧ RowAt w' g s (p + (numAt s p lo hi).2.1) (numAt s p lo hi).2.2 ∧ Only g w w' := by
  have hes : (s.extract p s.size).size ≤ 1000000 := by rw [ByteArray.size_extract]; omega
  cases hG : rd 0 0 ((bts s).drop p) with
  | bad c =>
    have hc0 : c = 10 ∨ c = 11 := rd_bad _ _ _ _ hG
    have hn : numAt s p lo hi = (0, 0, c) := by unfold numAt; rw [hG]; rfl
    rw [hn]
    have hc : c ≠ 0 := by omega
    have hc1 : (c == 0) = false := by simp; exact hc
    have hc2 : (c != 0) = true := by simp; exact hc
    have hf := fun w => first_bad (s.extract p s.size) w c hes (by rw [bts_from]; exact hG)
    have H := Lib.hid (And.intro h (And.intro hc hf)); clear h hn hc0 hG hc hf
    go_enter Tryd.func131, Tryd.ntmps131
    go_wp2_with fail
    refine (Err_ok w g s p H.out.1).mono ?_
    rintro e w2 ⟨rfl, hx⟩
    have h2 := H.out.1.ext hx
    have c0 : w2.cell? ⟨g, 0, none⟩ = some (.string s) := h2.cell 0
    have c1 : w2.cell? ⟨g, 1, none⟩ = some (.int .i64 p) := h2.cell 1
    have b0 : (0 : Int) ≤ (p : Int) := by omega
    have b1 : (p : Int) ≤ (s.size : Int) := by omega
    have H2 := Lib.hid (And.intro h2 hx); clear h2 hx
    go_wp2_with fail
    go_quiet ((go_at_call 140; exact Calls.quiet_of_same (H.out.2.2 _)))
    have h3 := Lib.hid (And.intro (H2.out.1.drewN nq) (H2.out.2.drewN nq))
    generalize w2.drewN nq = w3 at h3 ⊢
    go_wp2_with fail
    refine (unfold_any 0 w3 (by decide)).mono ?_
    rintro e w4 ⟨rfl, rfl⟩
    rw [show unfoldN 0 = 0 from rfl]
    go_wp2_with fail
    refine (Fail_ok w4 g s p c h3.out.1).mono ?_
    rintro e w5 ⟨rfl, h5, hx5⟩
    have H5 := Lib.hid (And.intro h5 ((Only.of_ext h3.out.2).trans hx5)); clear h5 hx5
    go_wp2
    go_ret
    exact ⟨rfl, H5.out⟩
  | num u k =>
    obtain ⟨_, hk1, hk2, hu⟩ := rd_num0 hG
    have hkl : p + k ≤ s.size := by rw [List.length_drop, bts_len] at hk2; omega
    have hr := unfoldN_range hu
    have hf := fun w => first_num (s.extract p s.size) w u k hes (by rw [bts_from]; exact hG)
    have huf := fun w => unfold_any u w hu
    have hn : numAt s p lo hi = if unfoldN u < lo ∨ hi < unfoldN u then (0, 0, 16) else (unfoldN u, k, 0) := by unfold numAt; rw [hG]; rfl
    rw [hn]
    generalize unfoldN u = N at hr huf hn ⊢
    have hr1 := hr.1
    have hr2 := hr.2
    by_cases hlo : N < lo
    · rw [if_pos (.inl hlo)]
      have H := Lib.hid (And.intro h (And.intro huf hf)); clear h hn hG hf huf hr hk1 hk2 hkl hu
      go_enter Tryd.func131, Tryd.ntmps131
      go_wp2_with fail
      refine (Err_ok w g s p H.out.1).mono ?_
      rintro e w2 ⟨rfl, hx⟩
      have h2 := H.out.1.ext hx
      have c0 : w2.cell? ⟨g, 0, none⟩ = some (.string s) := h2.cell 0
      have c1 : w2.cell? ⟨g, 1, none⟩ = some (.int .i64 p) := h2.cell 1
      have b0 : (0 : Int) ≤ (p : Int) := by omega
      have b1 : (p : Int) ≤ (s.size : Int) := by omega
      have H2 := Lib.hid (And.intro h2 hx); clear h2 hx
      go_wp2_with fail
      go_quiet ((go_at_call 140; exact Calls.quiet_of_same (H.out.2.2 _)))
      have h3 := Lib.hid (And.intro (H2.out.1.drewN nq) (H2.out.2.drewN nq))
      generalize w2.drewN nq = w3 at h3 ⊢
      go_wp2_with fail
      refine (H.out.2.1 w3).mono ?_
      rintro e w4 ⟨rfl, rfl⟩
      go_wp2_with fail
      refine (Fail_ok w4 g s p 16 h3.out.1).mono ?_
      rintro e w5 ⟨rfl, h5, hx5⟩
      have H5 := Lib.hid (And.intro h5 ((Only.of_ext h3.out.2).trans hx5)); clear h5 hx5
      go_wp2
      go_ret
      exact ⟨rfl, H5.out⟩
    · by_cases hhi : hi < N
      · rw [if_pos (.inr hhi)]
        have H := Lib.hid (And.intro h (And.intro huf hf)); clear h hn hG hf huf hr hk1 hk2 hkl hu
        go_enter Tryd.func131, Tryd.ntmps131
        go_wp2_with fail
        refine (Err_ok w g s p H.out.1).mono ?_
        rintro e w2 ⟨rfl, hx⟩
        have h2 := H.out.1.ext hx
        have c0 : w2.cell? ⟨g, 0, none⟩ = some (.string s) := h2.cell 0
        have c1 : w2.cell? ⟨g, 1, none⟩ = some (.int .i64 p) := h2.cell 1
        have b0 : (0 : Int) ≤ (p : Int) := by omega
        have b1 : (p : Int) ≤ (s.size : Int) := by omega
        have H2 := Lib.hid (And.intro h2 hx); clear h2 hx
        go_wp2_with fail
        go_quiet ((go_at_call 140; exact Calls.quiet_of_same (H.out.2.2 _)))
        have h3 := Lib.hid (And.intro (H2.out.1.drewN nq) (H2.out.2.drewN nq))
        generalize w2.drewN nq = w3 at h3 ⊢
        go_wp2_with fail
        refine (H.out.2.1 w3).mono ?_
        rintro e w4 ⟨rfl, rfl⟩
        go_wp2_with fail
        refine (Fail_ok w4 g s p 16 h3.out.1).mono ?_
        rintro e w5 ⟨rfl, h5, hx5⟩
        have H5 := Lib.hid (And.intro h5 ((Only.of_ext h3.out.2).trans hx5)); clear h5 hx5
        go_wp2
        go_ret
        exact ⟨rfl, H5.out⟩
      · rw [if_neg (fun h => by rcases h with h | h; exact hlo h; exact hhi h)]
        have H := Lib.hid (And.intro h (And.intro huf hf)); clear h hn hG hf huf hr hk1 hk2 hu
        go_enter Tryd.func131, Tryd.ntmps131
        go_wp2_with fail
        refine (Err_ok w g s p H.out.1).mono ?_
        rintro e w2 ⟨rfl, hx⟩
        have h2 := H.out.1.ext hx
        have c0 : w2.cell? ⟨g, 0, none⟩ = some (.string s) := h2.cell 0
        have c1 : w2.cell? ⟨g, 1, none⟩ = some (.int .i64 p) := h2.cell 1
        have b0 : (0 : Int) ≤ (p : Int) := by omega
        have b1 : (p : Int) ≤ (s.size : Int) := by omega
        have H2 := Lib.hid (And.intro h2 hx); clear h2 hx
        go_wp2_with fail
        go_quiet ((go_at_call 140; exact Calls.quiet_of_same (H.out.2.2 _)))
        have d1 : (w2.drewN nq).cell? ⟨g, 1, none⟩ = some (.int .i64 p) := (H2.out.1.drewN nq).cell 1
        have f1 : (w2.drewN nq).frozen? ⟨g, 1, none⟩ = false := (H2.out.1.drewN nq).frozen 1
        have h3 := Lib.hid (And.intro (H2.out.1.drewN nq) (H2.out.2.drewN nq))
        generalize w2.drewN nq = w3 at h3 d1 f1 ⊢
        go_wp2_with fail
        refine (H.out.2.1 w3).mono ?_
        rintro e w4 ⟨rfl, rfl⟩
        go_wp2
        go_ret
        refine ⟨rfl, ?_, (Only.of_ext h3.out.2).setCell _⟩
        have := h3.out.1.set_ 1 (.int .i64 ((p : Int) + (k : Int)))
        exact this
theorem Count_at (w : World) (g : Nat) (s : ByteArray) (p : Nat) (hi : Int) (hs : s.size ≤ 1000000) (hp : p ≤ s.size) (h : RowAt w g s p 0) :
    Calls Tryd.prog 108 #[.pointer (some ⟨g, 0, none⟩), .int .i64 hi] w fun e w' => e = .returned (.int .i64 (numAt s p 0 hi).1) ∧ RowAt w' g s (p + (numAt s p 0 hi).2.1) (numAt s p 0 hi).2.2 ∧ Only g w w' := by
  go_enter Tryd.func108, Tryd.ntmps108
  go_wp2_with fail
  refine (Num_at w g s p 0 hi hs hp h).mono ?_
  rintro e w2 ⟨rfl, h2, hx⟩
  have H := Lib.hid (And.intro h2 hx); clear h2 hx
  go_wp2
  go_ret
  exact ⟨rfl, H.out⟩
theorem Count_failed (w : World) (g : Nat) (s : ByteArray) (p : Nat) (c hi : Int) (hc : c ≠ 0) (h : RowAt w g s p c) : Calls Tryd.prog 108 #[.pointer (some ⟨g, 0, none⟩), .int .i64 hi] w fun e w' => e = .returned (.int .i64 0) ∧ Ext w w' := by
  go_enter Tryd.func108, Tryd.ntmps108
  go_wp2_with fail
  refine (Num_failed w g s p c 0 hi hc h).mono ?_
  rintro e w2 ⟨rfl, hx⟩
  have HX := Lib.hid hx; clear hx
  go_wp2
  go_ret
  exact ⟨rfl, HX.out⟩
theorem Count_none (w : World) (a : Value) : Calls Tryd.prog 108 #[.pointer none, a] w fun e w' => e = .returned (.int .i64 0) ∧ w' = w := by
  go_enter Tryd.func108, Tryd.ntmps108
  go_wp2_with fail
  refine (Num_none w _ _).mono ?_
  rintro e w2 ⟨rfl, rfl⟩
  go_wp2
  go_ret
  exact ⟨rfl, rfl⟩
end Go.Proofs.YtcmllaeihnmkkaaDoor
