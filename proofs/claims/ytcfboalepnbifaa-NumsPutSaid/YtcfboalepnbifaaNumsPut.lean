/- The law NumsPut, walked. -/
import Derived.Test.YtcfboalepnbifaaRefPutAll
import Derived.Test.YtcfboalepnbifaaAwakeN
import Derived.Test.YtcfboalepnbifaaCutInts
namespace Go.Proofs.Ytcfboalepnbifaa
open Go Go.RowKit

set_option maxHeartbeats 2000000 in
set_option maxRecDepth 100000 in
theorem numsPut_true (zs : List Int) (v : Value) (s : ByteArray) (w : World) (hv : IsInts w v zs) (hm : zs.length ≤ maxLen) :
    Calls Try.prog 3 #[v, .string s] w fun e w' => e = .returned (.bool true) ∧ Ext w w' := by
  obtain ⟨A, c, rfl, hc, _⟩ := hv.form
  unfold maxLen at hm
  by_cases h : 12 < zs.length
  · obtain ⟨g, off, rfl⟩ := hv.addr (by omega)
    have hcut := hv.cut 12 (by omega)
    have hcl : (zs.take 12).length ≤ 1000 := by rw [List.length_take]; omega
    have H := Lib.hid (And.intro hcut hcl); clear hcut hcl hv
    generalize zs.take 12 = ys at H
    go_enter Try.func3, Try.ntmps3
    go_wp2_with fail
    refine (awakeN_true _).mono ?_
    rintro e w1 ⟨rfl, hx1⟩
    have H1 := Lib.hid hx1; clear hx1
    go_wp2_with fail
    refine (shortN_of s 200 _ (by decide)).mono ?_
    rintro e w2 ⟨rfl, rfl⟩
    have hs2 := shortOf_le s 200
    generalize shortOf s 200 = x at hs2 ⊢
    go_wp2_with fail
    refine (Put_ints ys _ _ (H.out.1.ext H1.out) H.out.2).mono ?_
    rintro e w3 ⟨rfl, hx3⟩
    have H3 := Lib.hid (H1.out.trans hx3); clear hx3
    go_wp2_with fail
    refine (RefPut_ints ys _ _ (H.out.1.ext H3.out) H.out.2).mono ?_
    rintro e w4 ⟨rfl, hx4⟩
    have H4 := Lib.hid (H3.out.trans hx4); clear hx4
    go_wp2_with fail
    refine (PutText_any x _ (by omega)).mono ?_
    rintro e w5 ⟨rfl, hx5⟩
    have H5 := Lib.hid (H4.out.trans hx5); clear hx5
    go_wp2_with fail
    refine (RefPutText_any x _ (by omega)).mono ?_
    rintro e w6 ⟨rfl, hx6⟩
    have H6 := Lib.hid (H5.out.trans hx6); clear hx6
    go_wp2
    go_ret
    exact ⟨rfl, H6.out⟩
  · have hcl : zs.length ≤ 1000 := by omega
    have H := Lib.hid (And.intro hv hcl); clear hcl hv
    go_enter Try.func3, Try.ntmps3
    go_wp2_with fail
    refine (awakeN_true _).mono ?_
    rintro e w1 ⟨rfl, hx1⟩
    have H1 := Lib.hid hx1; clear hx1
    go_wp2_with fail
    refine (shortN_of s 200 _ (by decide)).mono ?_
    rintro e w2 ⟨rfl, rfl⟩
    have hs2 := shortOf_le s 200
    generalize shortOf s 200 = x at hs2 ⊢
    go_wp2_with fail
    refine (Put_ints zs _ _ (H.out.1.ext H1.out) H.out.2).mono ?_
    rintro e w3 ⟨rfl, hx3⟩
    have H3 := Lib.hid (H1.out.trans hx3); clear hx3
    go_wp2_with fail
    refine (RefPut_ints zs _ _ (H.out.1.ext H3.out) H.out.2).mono ?_
    rintro e w4 ⟨rfl, hx4⟩
    have H4 := Lib.hid (H3.out.trans hx4); clear hx4
    go_wp2_with fail
    refine (PutText_any x _ (by omega)).mono ?_
    rintro e w5 ⟨rfl, hx5⟩
    have H5 := Lib.hid (H4.out.trans hx5); clear hx5
    go_wp2_with fail
    refine (RefPutText_any x _ (by omega)).mono ?_
    rintro e w6 ⟨rfl, hx6⟩
    have H6 := Lib.hid (H5.out.trans hx6); clear hx6
    go_wp2
    go_ret
    exact ⟨rfl, H6.out⟩
end Go.Proofs.Ytcfboalepnbifaa
