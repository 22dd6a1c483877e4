/- The document's sum: bit by bit. -/
import Derived.Test.YtlcnicgjlddldaaDoorSeal
namespace Go.Proofs.YtlcnicgjlddldaaDoor
open Go Go.RowKit

set_option maxHeartbeats 4000000 in
set_option maxRecDepth 100000 in
theorem refSum_of (s : ByteArray) (w : World) (hs : s.size < 9223372036854775807) : Calls Tryd.prog 31 #[.string s] w fun e w' => e = .returned (.int .u32 (sumOf (bts s))) ∧ w' = w := by
  go_enter Tryd.func31, Tryd.ntmps31
  have HS := Lib.hid hs; clear hs
  go_wp2
  go_loopg [3, 4] s.size (fun k r c wr => ∃ (i R : Nat), Hid (i + k = s.size) ∧ r = .int .u32 R ∧ c = .int .i64 i ∧ Hid (R = eats 4294967295 ((bts s).take i)) ∧ wr = w)
  case atStart => exact ⟨0, 4294967295, Nat.zero_add _, rfl, rfl, rfl, rfl⟩
  case round =>
    obtain ⟨i, R, hi, rfl, rfl, hR, rfl⟩ := hrel
    obtain ⟨G, rfl⟩ : ∃ G, G = gk := ⟨_, rfl⟩
    have hRl : R < 4294967296 := by rw [hR.out]; exact eats_lt _ (by decide)
    have hsz : s.size < 9223372036854775807 := HS.out
    by_cases hlt : i < s.size
    · have hY : s[i].toNat < 256 := s[i].toNat_lt
      have hx : bits .xor .u32 ((R : Nat) : Int) ((s[i].toNat : Nat) : Int) = ((R ^^^ s[i].toNat : Nat) : Int) := u32_xor_nat _ _ hRl (by omega)
      have hxl := xor_lt32 hRl (show s[i].toNat < 4294967296 by omega)
      go_wp2
      go_loopg [3, 5] 8 (fun k r c wq => ∃ (j Q : Nat), Hid (j + k = 8) ∧ r = .int .u32 Q ∧ c = .int .i64 j ∧ Hid (Q = dnN j (R ^^^ s[i].toNat)) ∧ wq = wr)
      case atStart => exact ⟨0, _, Nat.zero_add _, rfl, rfl, rfl, rfl⟩
      case round =>
        obtain ⟨j, Q, hj, rfl, rfl, hQ, rfl⟩ := hrel
        have hQl : Q < 4294967296 := by rw [hQ.out]; exact dnN_lt _ hxl
        by_cases hj8 : j < 8
        · have hstep : Hid (dn Q = dnN (j + 1) (R ^^^ s[i].toNat)) := by
            show dn Q = _
            rw [dnN_succ, ← hQ.out]
          by_cases ho : Q % 2 = 1
          · have ha : bits .and .u32 ((Q : Nat) : Int) 1 = 1 := by rw [and_one Q hQl, ho]; rfl
            have hd := dn_odd hQl ha
            clear ho hx
            go_wp2
            go_roundg (gk - 1)
            case measure => have := hj.out; omega
            case rel =>
              refine ⟨j + 1, dn Q, ?_, rfl, by go_num, hstep, rfl⟩
              show j + 1 + (gk - 1) = 8
              have := hj.out; omega
          · have h0 : Q % 2 = 0 := by omega
            have ha : bits .and .u32 ((Q : Nat) : Int) 1 = 0 := by rw [and_one Q hQl, h0]; rfl
            have hd := dn_even hQl (by rw [ha]; decide)
            clear ho h0 hx
            go_wp2
            go_roundg (gk - 1)
            case measure => have := hj.out; omega
            case rel =>
              refine ⟨j + 1, dn Q, ?_, rfl, by go_num, hstep, rfl⟩
              show j + 1 + (gk - 1) = 8
              have := hj.out; omega
        · go_wp2
          have hj' : j = 8 := by have := hj.out; omega
          subst hj'
          go_roundg (G - 1)
          case measure => have := hi.out; omega
          case rel =>
            refine ⟨i + 1, Q, ?_, rfl, by go_num, ?_, rfl⟩
            · show i + 1 + (G - 1) = s.size
              have := hi.out; omega
            · show Q = _
              rw [eats_take _ s i hlt, ← hR.out]; exact hQ.out
    · have hx : bits .xor .u32 ((R : Nat) : Int) 4294967295 = ((R ^^^ 4294967295 : Nat) : Int) := u32_xor_nat _ _ hRl (by decide)
      have hi' : i = s.size := by have := hi.out; omega
      have hfin : R ^^^ 4294967295 = sumOf (bts s) := by
        rw [hR.out, hi', ← bts_len s, List.take_length]; rfl
      rw [hfin] at hx
      go_wp2
      go_ret
      exact ⟨rfl, rfl⟩
end Go.Proofs.YtlcnicgjlddldaaDoor
