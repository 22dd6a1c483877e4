/- The law CheckBack, walked. -/
import Derived.Test.YtlcnicgjlddldaaDoorWrap
import Derived.Test.YtlcnicgjlddldaaDoorFaultE
import Derived.Test.YtlcnicgjlddldaaDoorFaultG
namespace Go.Proofs.YtlcnicgjlddldaaDoor
open Go Go.RowKit

theorem shortOf_sub (s : ByteArray) (n : Nat) : (shortOf s n).size ≤ s.size := by
  unfold shortOf
  split
  · rw [ByteArray.size_extract]; omega
  · omega
set_option maxHeartbeats 4000000 in
set_option maxRecDepth 100000 in
theorem back_true (s : ByteArray) (w : World) (hg : ErrType w) : Calls Tryd.prog 10 #[.string s] w fun e w' => e = .returned (.bool true) ∧ Ext w w' := by
  have HG := Lib.hid hg; clear hg
  go_enter Tryd.func10, Tryd.ntmps10
  go_wp2_with fail
  refine (awakeC_true _).mono ?_
  rintro e w1 ⟨rfl, hx1⟩
  go_wp2_with (go_at_call 28; refine (short_of _ 300 _ (by decide)).mono ?_; rintro e w2 ⟨rfl, rfl⟩)
  have hc := shortOf_le s 300
  generalize shortOf s 300 = x at hc ⊢
  refine (Wrap_ok x w2 (by omega)).mono ?_
  rintro e w3 ⟨rfl, hx3⟩
  go_wp2_with fail
  refine (Open_parts x ⟨(le4 (sumOf (bts x))).toArray⟩ w3 (by omega) (by rw [size_mk (le4 _), le4_len])).mono ?_
  rintro e w4 ⟨h4, _, hx4⟩
  obtain rfl := h4 rfl
  clear h4
  go_wp2_with fail
  refine (short_of (wrapOf x) 3 _ (by decide)).mono ?_
  rintro e w5 ⟨rfl, rfl⟩
  have hz3 : (shortOf (wrapOf x) 3).size < 4 := by have := shortOf_le (wrapOf x) 3; omega
  have hz5 := shortOf_sub (wrapOf x) 3
  generalize shortOf (wrapOf x) 3 = y at hz3 hz5 ⊢
  go_wp2_with fail
  refine (Open_short y _ hz3).mono ?_
  rintro e w6 ⟨rfl, rfl⟩
  have hwz := wrapOf_size x
  go_wp2_with fail
  refine (Code_nil _).mono ?_
  rintro e w7 ⟨rfl, hx7⟩
  go_wp2_with fail
  refine (Code_nil _).mono ?_
  rintro e w8 ⟨rfl, hx8⟩
  go_wp2_with fail
  trace_state
  refine (Is_rep (.code 11) _ 11 _ ⟨rfl, by decide, by decide, by decide⟩).mono ?_
  rintro e w9 ⟨rfl, hx9⟩
  rw [show (Tr.code 11).has 11 = true from rfl]
  go_wp2
  go_ret
  exact ⟨rfl, ((((hx1.trans hx3).trans hx4).trans hx7).trans hx8).trans hx9⟩
end Go.Proofs.YtlcnicgjlddldaaDoor
