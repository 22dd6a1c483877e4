/- The law NumsNil, walked. -/
import Derived.Test.YtcfboalepnbifaaDoorTellN
import Derived.Test.YtcfboalepnbifaaDoorText
import Derived.Test.YtcfboalepnbifaaDoorAwakeN
namespace Go.Proofs.YtcfboalepnbifaaDoor
open Go Go.RowKit

set_option maxHeartbeats 2000000 in
set_option maxRecDepth 100000 in
theorem numsNil_true (c : Int) (w : World) (hg : ErrType w) : Calls Tryd.prog 6 #[.int .i64 c] w fun e w' => e = .returned (.bool true) ∧ Ext w w' := by
  have HG := Lib.hid hg; clear hg
  go_enter Tryd.func6, Tryd.ntmps6
  go_wp2_with fail
  refine (Fail_none _ _).mono ?_
  rintro e w1 ⟨rfl, rfl⟩
  go_wp2_with fail
  refine (Err_nil _).mono ?_
  rintro e w1 ⟨rfl, rfl⟩
  go_wp2_with fail
  refine (Place_code 10 _).mono ?_
  rintro e w2 ⟨rfl, hx2⟩
  have H2 := Lib.hid hx2; clear hx2
  go_wp2_with fail
  refine (awakeN_true _).mono ?_
  rintro e w3 ⟨rfl, hx3⟩
  have H3 := Lib.hid (H2.out.trans hx3); clear hx3
  go_wp2_with fail
  refine (Num_none _ _ _).mono ?_
  rintro e w4 ⟨rfl, rfl⟩
  go_wp2_with fail
  refine (Count_none _ _).mono ?_
  rintro e w4 ⟨rfl, rfl⟩
  go_wp2_with fail
  refine (Text_none _ _).mono ?_
  rintro e w4 ⟨rfl, rfl⟩
  go_wp2_with fail
  refine (At_none _).mono ?_
  rintro e w4 ⟨rfl, rfl⟩
  go_wp2_with fail
  refine (Err_nil _).mono ?_
  rintro e w4 ⟨rfl, rfl⟩
  go_wp2_with fail
  refine (Code_code 10 _ (HG.out.ext H3.out) (by decide) (by decide) (by decide)).mono ?_
  rintro e w5 ⟨rfl, hx5⟩
  have H5 := Lib.hid (H3.out.trans hx5); clear hx5
  go_wp2_with fail
  refine (End_none _).mono ?_
  rintro e w6 ⟨rfl, hx6⟩
  have H6 := Lib.hid (H5.out.trans hx6); clear hx6
  go_wp2_with fail
  refine (Code_code 10 _ (HG.out.ext H6.out) (by decide) (by decide) (by decide)).mono ?_
  rintro e w7 ⟨rfl, hx7⟩
  have H7 := Lib.hid (H6.out.trans hx7); clear hx7
  go_wp2
  go_ret
  exact ⟨rfl, H7.out⟩
end Go.Proofs.YtcfboalepnbifaaDoor
