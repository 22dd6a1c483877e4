/- A code's own text. -/
import Derived.Test.YtlcnicgjlddldaaDoorRep
import Derived.Test.YtlcnicgjlddldaaDoorProg
import Derived.LoopTactic
import Derived.Deep.LoopGhost
import Derived.Laws.IdiomStrings
import Derived.Lib.ItoaMem
import Derived.Lib.ItoaLen
namespace Go.Proofs.YtlcnicgjlddldaaDoor
open Go Go.RowKit

/-- A text of one byte out of its slice. -/
theorem conv1 (W : World) (a : Addr) (cap : Nat) (n : Int) (h : W.cell? a = some (.int .u8 n)) (h0 : 0 ≤ n) (h1 : n < 256) : (convert 56 9 (.slice (some a) 1 cap)).run Tryd.prog W = .ok (.string ⟨#[UInt8.ofNat n.toNat]⟩) W := by
  have := run_convert_bytes_back (P := Tryd.prog) W 56 9 5 a cap [UInt8.ofNat n.toNat] Tryd.underlying56 Tryd.underlying5 Tryd.underlying9 (fun j hj => by
    have : j = 0 := by simpa using hj
    subst this
    show W.cell? (a.add 0) = _
    have e : a.add 0 = a := by simp [Addr.add]
    rw [e, h]
    have : n.toNat < 256 := by omega
    simp [UInt8.toNat_ofNat', Nat.mod_eq_of_lt this]
    omega)
  exact this

theorem dec_step (m : Nat) (h : 10 ≤ m) : Lib.decDigits m = Lib.decDigits (m / 10) ++ [UInt8.ofNat (48 + m % 10)] := by
  rw [Lib.decDigits, dif_neg (by omega)]
theorem dec_one (m : Nat) (h : m < 10) : Lib.decDigits m = [UInt8.ofNat (48 + m)] := by
  rw [Lib.decDigits, dif_pos h]
/-- The digits ahead of the last one. -/
def decHead (m : Nat) : List UInt8 := if m < 10 then [] else Lib.decDigits (m / 10)
theorem dec_head (m : Nat) : Lib.decDigits m = decHead m ++ [UInt8.ofNat (48 + m % 10)] := by
  unfold decHead
  split
  · next h => rw [dec_one m h, Nat.mod_eq_of_lt h]; rfl
  · next h => exact dec_step m (by omega)
theorem decHead_step (m : Nat) (h : 10 ≤ m) : decHead m = decHead (m / 10) ++ [UInt8.ofNat (48 + m / 10 % 10)] := by
  rw [← dec_head]; unfold decHead; rw [if_neg (by omega)]

theorem wrap_back (c : Nat) (hc : c ≤ 9223372036854775808) : IntKind.u64.wrap (-IntKind.u64.wrap (-(c : Int))) = c := by
  rw [IntKind.wrap_u64, IntKind.wrap_u64]
  omega

set_option maxHeartbeats 1000000 in
set_option maxRecDepth 100000 in
theorem error_pos (c : Nat) (w : World) (hc : c ≤ 9223372036854775807) : Calls Tryd.prog 111 #[.int .i64 c] w fun e w' => e = .returned (.string ⟨(codeText c).toArray⟩) ∧ Ext w w' := by
  have hm : (c : Int) % 10 < 10 := by omega
  have hm0 : 0 ≤ (c : Int) % 10 := by omega
  have k1 := conv1 (w.alloc (.cells #[.int .u8 (48 + (c : Int) % 10)] 5)) ⟨w.heap.size, 0, none⟩ 1 (48 + (c : Int) % 10) (by simp) (by omega) (by omega)
  go_enter Tryd.func111, Tryd.ntmps111
  go_wp2
  clear k1
  go_loopg [3, 5] c (fun k n s wr => ∃ (m : Nat) (x : ByteArray), m ≤ k ∧ m ≤ c ∧ n = .int .u64 m ∧ s = .string x ∧ Hid (Lib.decDigits c = decHead m ++ x.data.toList) ∧ Ext w wr)
  case atStart => exact ⟨c, _, Nat.le_refl _, Nat.le_refl _, rfl, rfl, dec_head c, (Ext.refl w).alloc _⟩
  case round =>
    obtain ⟨m, x, hk, hmc, rfl, rfl, hd, hx⟩ := hrel
    have hl : x.size ≤ 21 := by
      have h1 := Lib.itoa_length_le c (by omega) (by omega)
      rw [Lib.itoa_nonneg, hd.out, List.length_append] at h1
      have h2 : x.data.toList.length = x.size := Array.length_toList
      omega
    by_cases h10 : 10 ≤ m
    · have hq : (m : Int) / 10 % 10 < 10 := by omega
      have hq0 : 0 ≤ (m : Int) / 10 % 10 := by omega
      have k1 := conv1 (wr.alloc (.cells #[.int .u8 (48 + (m : Int) / 10 % 10)] 5)) ⟨wr.heap.size, 0, none⟩ 1 (48 + (m : Int) / 10 % 10) (by simp) (by omega) (by omega)
      go_wp2
      go_roundg (m / 10)
      case measure => omega
      case rel =>
        refine ⟨m / 10, _, Nat.le_refl _, by omega, by go_num, rfl, ?_, hx.alloc _⟩
        · show _ = _
          rw [hd.out, decHead_step m h10, ByteArray.data_append, Array.toList_append]
          simp
    · have hz : decHead m = [] := by unfold decHead; rw [if_pos (by omega)]
      have HZ := Lib.hid hz; clear hz
      go_wp2
      go_ret
      refine ⟨?_, hx⟩
      have h1 := hd.out
      rw [HZ.out, List.nil_append] at h1
      unfold codeText
      rw [Lib.itoa_nonneg, h1]
      refine congrArg (fun b => Ending.returned (.string b)) (ByteArray.ext (Array.ext' ?_))
      rw [ByteArray.data_append, ByteArray.data_append, Array.toList_append, Array.toList_append]
      rfl
set_option maxHeartbeats 1000000 in
set_option maxRecDepth 100000 in
theorem error_neg (c : Nat) (w : World) (hc1 : 1 ≤ c) (hc : c ≤ 9223372036854775808) : Calls Tryd.prog 111 #[.int .i64 (-(c : Int))] w fun e w' => e = .returned (.string ⟨(codeText (-(c : Int))).toArray⟩) ∧ Ext w w' := by
  have hm : (c : Int) % 10 < 10 := by omega
  have hm0 : 0 ≤ (c : Int) % 10 := by omega
  have k1 := conv1 (w.alloc (.cells #[.int .u8 (48 + (c : Int) % 10)] 5)) ⟨w.heap.size, 0, none⟩ 1 (48 + (c : Int) % 10) (by simp) (by omega) (by omega)
  have e1 := wrap_back c hc
  go_enter Tryd.func111, Tryd.ntmps111
  go_wp2
  clear k1 e1
  go_loopg [3, 5] c (fun k n s wr => ∃ (m : Nat) (x : ByteArray), m ≤ k ∧ m ≤ c ∧ n = .int .u64 m ∧ s = .string x ∧ Hid (Lib.decDigits c = decHead m ++ x.data.toList) ∧ Ext w wr)
  case atStart => exact ⟨c, _, Nat.le_refl _, Nat.le_refl _, rfl, rfl, dec_head c, (Ext.refl w).alloc _⟩
  case round =>
    obtain ⟨m, x, hk, hmc, rfl, rfl, hd, hx⟩ := hrel
    have hl : x.size ≤ 21 := by
      have h1 := Lib.itoa_length_le (-(c : Int)) (by omega) (by omega)
      rw [Lib.itoa_neg c hc1, List.length_cons, hd.out, List.length_append] at h1
      have h2 : x.data.toList.length = x.size := Array.length_toList
      omega
    by_cases h10 : 10 ≤ m
    · have hq : (m : Int) / 10 % 10 < 10 := by omega
      have hq0 : 0 ≤ (m : Int) / 10 % 10 := by omega
      have k1 := conv1 (wr.alloc (.cells #[.int .u8 (48 + (m : Int) / 10 % 10)] 5)) ⟨wr.heap.size, 0, none⟩ 1 (48 + (m : Int) / 10 % 10) (by simp) (by omega) (by omega)
      go_wp2
      go_roundg (m / 10)
      case measure => omega
      case rel =>
        refine ⟨m / 10, _, Nat.le_refl _, by omega, by go_num, rfl, ?_, hx.alloc _⟩
        · show _ = _
          rw [hd.out, decHead_step m h10, ByteArray.data_append, Array.toList_append]
          simp
    · have hz : decHead m = [] := by unfold decHead; rw [if_pos (by omega)]
      have HZ := Lib.hid hz; clear hz
      go_wp2
      go_ret
      refine ⟨?_, hx⟩
      have h1 := hd.out
      rw [HZ.out, List.nil_append] at h1
      unfold codeText
      rw [Lib.itoa_neg c hc1, h1]
      refine congrArg (fun b => Ending.returned (.string b)) (ByteArray.ext (Array.ext' ?_))
      rw [ByteArray.data_append, ByteArray.data_append, Array.toList_append, Array.toList_append]
      rfl
theorem error_code (c : Int) (w : World) (h0 : -9223372036854775808 ≤ c) (h1 : c ≤ 9223372036854775807) : Calls Tryd.prog 111 #[.int .i64 c] w fun e w' => e = .returned (.string ⟨(codeText c).toArray⟩) ∧ Ext w w' := by
  by_cases h : c < 0
  · obtain ⟨u, rfl⟩ : ∃ u : Nat, c = -(u : Int) := ⟨c.natAbs, by omega⟩
    exact error_neg u w (by omega) (by omega)
  · obtain ⟨u, rfl⟩ : ∃ u : Nat, c = (u : Int) := ⟨c.toNat, by omega⟩
    exact error_pos u w (by omega)
end Go.Proofs.YtlcnicgjlddldaaDoor
