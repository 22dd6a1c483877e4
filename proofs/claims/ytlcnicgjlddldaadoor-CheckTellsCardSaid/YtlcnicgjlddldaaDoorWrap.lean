/- Texts are wrapped and opened. -/
import Derived.Test.YtlcnicgjlddldaaDoorSeal
import Derived.Test.YtlcnicgjlddldaaDoorShelfB
import Derived.Test.YtlcnicgjlddldaaDoorFaultA
namespace Go.Proofs.YtlcnicgjlddldaaDoor
open Go Go.RowKit

theorem strings_Clone (s : ByteArray) (w : World) (hs : s.size ≤ 281474976710656) : Calls Tryd.prog 56 #[.string s] w fun e w' => e = .returned (.string s) ∧ Ext w w' := by
  go_enter Tryd.func56, Tryd.ntmps56
  go_wp2_with fail
  refine (Tryd.stringslite_Clone s w hs).mono ?_
  rintro e w2 ⟨rfl, hx⟩
  go_wp2
  go_ret
  exact ⟨rfl, hx⟩
/-- A text, wrapped. -/
def wrapOf (s : ByteArray) : ByteArray := s ++ ⟨(le4 (sumOf (bts s))).toArray⟩
theorem le4_len (n : Nat) : (le4 n).length = 4 := rfl
theorem wrapOf_size (s : ByteArray) : (wrapOf s).size = s.size + 4 := by
  unfold wrapOf
  rw [ByteArray.size_append, size_mk (le4 _), le4_len]
theorem bts_wrapOf (s : ByteArray) : bts (wrapOf s) = bts s ++ le4 (sumOf (bts s)) := by
  unfold wrapOf
  rw [bts_append, bts_mk (le4 _)]
theorem ba_ext {a b : ByteArray} (h : bts a = bts b) : a = b := by
  apply ByteArray.ext
  exact Array.toList_inj.1 h
theorem bts_extract (s : ByteArray) (i j : Nat) : bts (s.extract i j) = ((bts s).take j).drop i := by
  unfold bts
  rw [ByteArray.data_extract, Array.toList_extract]
  simp [List.drop_take]
theorem extract_left (a t : ByteArray) : (a ++ t).extract 0 a.size = a := by
  apply ba_ext
  rw [bts_extract, bts_append, List.drop_zero, ← bts_len, List.take_left']
  rfl
theorem extract_right (a t : ByteArray) : (a ++ t).extract a.size (a.size + t.size) = t := by
  apply ba_ext
  rw [bts_extract, bts_append, List.take_of_length_le (by rw [List.length_append, bts_len, bts_len]; omega), ← bts_len, List.drop_left']
  rfl
set_option maxHeartbeats 2000000 in
set_option maxRecDepth 100000 in
theorem Wrap_ok (s : ByteArray) (w : World) (hs : s.size ≤ 4096) : Calls Tryd.prog 32 #[.string s] w fun e w' => e = .returned (.tuple #[.string (wrapOf s), .nilIface]) ∧ Ext w w' := by
  go_enter Tryd.func32, Tryd.ntmps32
  go_wp2_with fail
  refine (sealed_of s w (by omega)).mono ?_
  rintro e w2 ⟨rfl, hx⟩
  have hz : (⟨(le4 (sumOf (bts s))).toArray⟩ : ByteArray).size = 4 := by rw [size_mk (le4 _), le4_len]
  have hW : s ++ ⟨(le4 (sumOf (bts s))).toArray⟩ = wrapOf s := rfl
  go_wp2
  go_ret2
  exact ⟨rfl, hx⟩
set_option maxHeartbeats 2000000 in
set_option maxRecDepth 100000 in
theorem Wrap_over (s : ByteArray) (w : World) (hs : 4096 < s.size) : Calls Tryd.prog 32 #[.string s] w fun e w' => e = .returned (.tuple #[.string ⟨#[]⟩, .iface 35 (.int .i64 16)]) ∧ w' = w := by
  go_enter Tryd.func32, Tryd.ntmps32
  go_wp2_with fail
  refine (new_code 16 w (by decide)).mono ?_
  rintro e w2 ⟨rfl, rfl⟩
  go_wp2
  go_ret2
  exact ⟨rfl, rfl⟩
set_option maxHeartbeats 2000000 in
set_option maxRecDepth 100000 in
theorem Open_short (s : ByteArray) (w : World) (hs : s.size < 4) : Calls Tryd.prog 33 #[.string s] w fun e w' => e = .returned (.tuple #[.string ⟨#[]⟩, .iface 35 (.int .i64 11)]) ∧ w' = w := by
  go_enter Tryd.func33, Tryd.ntmps33
  go_wp2_with fail
  refine (new_code 11 w (by decide)).mono ?_
  rintro e w2 ⟨rfl, rfl⟩
  go_wp2
  go_ret2
  exact ⟨rfl, rfl⟩
set_option maxHeartbeats 2000000 in
set_option maxRecDepth 100000 in
theorem Open_over (s : ByteArray) (w : World) (hs : 4100 < s.size) (hb : s.size ≤ 1000000) : Calls Tryd.prog 33 #[.string s] w fun e w' => e = .returned (.tuple #[.string ⟨#[]⟩, .iface 35 (.int .i64 16)]) ∧ w' = w := by
  go_enter Tryd.func33, Tryd.ntmps33
  go_wp2_with fail
  refine (new_code 16 w (by decide)).mono ?_
  rintro e w2 ⟨rfl, rfl⟩
  go_wp2
  go_ret2
  exact ⟨rfl, rfl⟩
set_option maxHeartbeats 2000000 in
set_option maxRecDepth 100000 in
/-- A body with four bytes behind it. -/
theorem Open_parts (a t : ByteArray) (w : World) (ha : a.size ≤ 4096) (ht : t.size = 4) : Calls Tryd.prog 33 #[.string (a ++ t)] w fun e w' =>
    (t = ⟨(le4 (sumOf (bts a))).toArray⟩ → e = .returned (.tuple #[.string a, .nilIface])) ∧ (t ≠ ⟨(le4 (sumOf (bts a))).toArray⟩ → e = .returned (.tuple #[.string ⟨#[]⟩, .iface 35 (.int .i64 17)])) ∧ Ext w w' := by
  have e1 : (a ++ t).extract 0 a.size = a := extract_left a t
  have e2 : (a ++ t).extract a.size (a.size + 4) = t := by rw [← ht]; exact extract_right a t
  have hz : (le4 (sumOf (bts a))).length = 4 := rfl
  by_cases hq : t = ⟨(le4 (sumOf (bts a))).toArray⟩
  · have hb : (t.toList == le4 (sumOf (bts a))) = true := by
      rw [beq_iff_eq, ByteArray.toList_eq, hq]
    have HQ := Lib.hid hq; clear hq hz
    go_enter Tryd.func33, Tryd.ntmps33
    go_wp2_with fail
    go_region_with (go_at_call 55; refine (sealed_of a _ (by omega)).mono ?_; rintro e w2 ⟨rfl, hx⟩)
    all_goals
      go_wp2_with fail
      refine (strings_Clone a w2 (by omega)).mono ?_
      rintro e w3 ⟨rfl, hx3⟩
      go_wp2
      go_ret2
      exact ⟨fun _ => rfl, fun h => absurd HQ.out h, (Ext.trans (b := w.drew) (Ext.refl w).drew hx).trans hx3⟩
  · have hb : (t.toList == le4 (sumOf (bts a))) = false := by
      rw [beq_eq_false_iff_ne, ByteArray.toList_eq]
      intro h
      apply hq
      apply ByteArray.ext
      rw [← h]
    have HQ := Lib.hid hq; clear hq hz
    go_enter Tryd.func33, Tryd.ntmps33
    go_wp2_with fail
    go_region_with (go_at_call 55; refine (sealed_of a _ (by omega)).mono ?_; rintro e w2 ⟨rfl, hx⟩)
    all_goals
      go_wp2_with fail
      refine (new_code 17 w2 (by decide)).mono ?_
      rintro e w3 ⟨rfl, rfl⟩
      go_wp2
      go_ret2
      exact ⟨fun h => absurd h HQ.out, fun _ => rfl, Ext.trans (b := w.drew) (Ext.refl w).drew hx⟩
end Go.Proofs.YtlcnicgjlddldaaDoor
