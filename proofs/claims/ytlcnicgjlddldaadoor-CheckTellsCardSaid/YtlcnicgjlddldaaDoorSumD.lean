/- The sum of a text. -/
import Derived.Test.YtlcnicgjlddldaaDoorSumC
namespace Go.Proofs.YtlcnicgjlddldaaDoor
open Go Go.RowKit

theorem allBytes_one (x : ByteArray) : allBytes [x] = bts x := by simp [allBytes]
theorem Ready.new {w : World} {g : Nat} (h : SumAt w g 0 (fun _ => 0)) : Ready w g 0 := ⟨_, h, .inl fun _ _ => rfl⟩
theorem SumT.ready {w : World} {g s : Nat} (h : SumT w g s) : Ready w g s := ⟨_, h, .inr fun _ _ => rfl⟩
theorem zero_start : (0 : Nat) ^^^ 4294967295 = 4294967295 := by decide
theorem strs_one (w : World) (x : ByteArray) (T : TypeId) : StrsAt (w.alloc (.cells #[.string x] T)) w.heap.size 0 [x] := by
  intro i s h
  match i, h with
  | 0, h => cases h; rw [Lib.cell_of_heap (Go.heap_alloc_new _ _)]; rfl
set_option maxHeartbeats 1000000 in
set_option maxRecDepth 100000 in
theorem Sum_text (x : ByteArray) (w : World) (hx : x.size < 9223372036854775807) : Calls Tryd.prog 30 #[.string x] w fun e w' => e = .returned (.int .u32 (sumOf (bts x))) ∧ Ext w w' := by
  have HX := Lib.hid hx; clear hx
  go_enter Tryd.func30, Tryd.ntmps30
  go_wp2_with (go_at_call 52; refine (New_at w).mono ?_)
  rintro e w1 ⟨rfl, h1, hx1⟩
  have hb : w1.heap.size ≠ w.heap.size := by
    obtain ⟨arr, hb1, _⟩ := h1.blk
    have := (Array.getElem?_eq_some_iff.1 hb1).1
    omega
  have H1 := Lib.hid (And.intro h1 hx1); clear h1 hx1
  go_wp2_with fail
  have h2 : Ready (w1.alloc (.cells #[.string x] 9)) w.heap.size 0 := Ready.new (H1.out.1.ext ((Ext.refl w1).alloc _))
  have h3 : StrsAt (w1.alloc (.cells #[.string x] 9)) w1.heap.size 0 [x] := strs_one w1 x _
  have h4 : Ext w (w1.alloc (.cells #[.string x] 9)) := H1.out.2.alloc _
  generalize w1.alloc (.cells #[.string x] 9) = w2 at h2 h3 h4 ⊢
  refine (Write_at w.heap.size 0 w2 w1.heap.size 0 1 [x] hb h2 h3 (fun y hy => by rw [List.mem_singleton.1 hy]; exact HX.out) (show 1 < 1000000 by decide)).mono ?_
  rintro e w3 ⟨rfl, h5, h6⟩
  rw [zero_start, allBytes_one] at h5
  have h7 : Ext w w3 := Below.trans h4 (h6.below (Nat.le_refl _) h4.size)
  go_wp2_with fail
  refine (Sum_at w.heap.size _ _ w3 h5).mono ?_
  rintro e w4 ⟨rfl, rfl⟩
  go_wp2
  go_ret
  exact ⟨rfl, h7⟩

theorem toBytes_awake : bts ⟨#[49, 50, 51, 52, 53, 54, 55, 56, 57]⟩ = [49, 50, 51, 52, 53, 54, 55, 56, 57] := rfl
set_option maxHeartbeats 1000000 in
set_option maxRecDepth 100000 in
theorem awakeC_true (w : World) : Calls Tryd.prog 27 #[] w fun e w' => e = .returned (.bool true) ∧ Ext w w' := by
  go_enter Tryd.func27, Tryd.ntmps27
  go_wp2_with fail
  refine (Sum_text _ w (by decide)).mono ?_
  rintro e w2 ⟨rfl, hx⟩
  rw [toBytes_awake, awake_sum]
  go_wp2
  go_ret
  exact ⟨rfl, hx⟩
def shortOf (s : ByteArray) (n : Nat) : ByteArray := if n < s.size then s.extract 0 n else s
theorem shortOf_le (s : ByteArray) (n : Nat) : (shortOf s n).size ≤ n := by
  unfold shortOf
  split
  · rw [ByteArray.size_extract]; omega
  · omega
set_option maxHeartbeats 1000000 in
set_option maxRecDepth 100000 in
theorem short_of (s : ByteArray) (n : Nat) (w : World) (hn : n < 1000000) : Calls Tryd.prog 28 #[.string s, .int .i64 n] w fun e w' => e = .returned (.string (shortOf s n)) ∧ w' = w := by
  by_cases h : n < s.size
  · have he : shortOf s n = s.extract 0 n := if_pos h
    rw [he]
    have HE := Lib.hid he; clear he
    go_enter Tryd.func28, Tryd.ntmps28
    go_wp2
    go_ret
    exact ⟨rfl, rfl⟩
  · have he : shortOf s n = s := if_neg h
    rw [he]
    have HE := Lib.hid he; clear he
    go_enter Tryd.func28, Tryd.ntmps28
    go_wp2
    go_ret
    exact ⟨rfl, rfl⟩
end Go.Proofs.YtlcnicgjlddldaaDoor
