/- The laws' tells: cells and rows are told as the document says. -/
import Derived.Test.YtckdchkegbdiaaaDoorRefMendC
import Derived.Test.YtckdchkegbdiaaaDoorRefBytesC
import Derived.Test.YtckdchkegbdiaaaDoorAwakeC
import Derived.Test.YtckdchkegbdiaaaDoorTextC
namespace Go.Proofs.YtckdchkegbdiaaaDoor
open Go Go.RowKit

set_option maxHeartbeats 4000000 in
set_option maxRecDepth 100000 in
theorem tellsC_of (l : List Cel) (v : Value) (w : World) (hv : IsCells w v l) (hS : Spans w) (hm : l.length ≤ 1000) : Calls Tryd.prog 15 #[v] w fun e w' => e = .returned (.bool true) ∧ Ext w w' := by
  have hM := mendL_ok hv.all
  have hml := mendL_length l
  have H := Lib.hid (And.intro hv (And.intro hS (And.intro hm (And.intro hM hml)))); clear hv hS hm hM hml
  go_enter Tryd.func15, Tryd.ntmps15
  go_wp2_with fail
  refine (Mend_of l v _ H.out.1 H.out.2.1 (by have := H.out.2.2.1; omega)).mono ?_
  rintro e w1 ⟨v1, rfl, ho1, hx1⟩
  have H1 := Lib.hid (And.intro (ho1.isCells H.out.2.2.2.1) hx1); clear ho1 hx1
  go_wp2_with fail
  refine (RefMend_of l v _ (H.out.1.ext H1.out.2) (by have := H.out.2.2.1; omega)).mono ?_
  rintro e w2 ⟨v2, rfl, ho2, hx2⟩
  have H2 := Lib.hid (And.intro (ho2.isCells H.out.2.2.2.1) (And.intro (H1.out.1.ext hx2) (H1.out.2.trans hx2))); clear ho2 hx2
  go_wp2_with fail
  refine (SameC_of (mendL l) (mendL l) _ _ _ H2.out.2.1 H2.out.1 (by rw [H.out.2.2.2.2]; have := H.out.2.2.1; unfold maxLen; omega)).mono ?_
  rintro e w3 ⟨rfl, hx3⟩
  rw [decide_eq_true (rfl : mendL l = mendL l)]
  have H3 := Lib.hid (H2.out.2.2.trans hx3); clear hx3
  go_wp2_with fail
  refine (Right_of l v _ (H.out.1.ext H3.out) (H.out.2.1.ext H3.out) (by have := H.out.2.2.1; unfold maxLen; omega)).mono ?_
  rintro e w4 ⟨rfl, hx4⟩
  have H4 := Lib.hid (H3.out.trans hx4); clear hx4
  generalize hR : rightL l = R
  have HR := Lib.hid hR; clear hR
  go_wp2_with fail
  refine (RefRight_of l v _ (H.out.1.ext H4.out) (by have := H.out.2.2.1; omega)).mono ?_
  rintro e w5 ⟨rfl, hx5⟩
  rw [HR.out]
  have H5 := Lib.hid (H4.out.trans hx5); clear hx5
  go_wp2_with fail
  refine (BytesC_of l v _ (H.out.1.ext H5.out) (H.out.2.1.ext H5.out) H.out.2.2.1).mono ?_
  rintro e w6 ⟨rfl, hx6⟩
  have H6 := Lib.hid (H5.out.trans hx6); clear hx6
  generalize hB : (⟨(bytesL l).toArray⟩ : ByteArray) = B
  have HB := Lib.hid hB; clear hB
  go_wp2_with fail
  refine (RefBytesC_of l v _ (H.out.1.ext H6.out) H.out.2.2.1).mono ?_
  rintro e w7 ⟨rfl, hx7⟩
  rw [HB.out]
  have H7 := Lib.hid (H6.out.trans hx7); clear hx7
  go_wp2_with fail
  refine (TextC_of l v _ (H.out.1.ext H7.out) (H.out.2.1.ext H7.out) H.out.2.2.1).mono ?_
  rintro e w8 ⟨rfl, hx8⟩
  have H8 := Lib.hid (H7.out.trans hx8); clear hx8
  generalize hT : encS (stripL (charsL l)) = T
  have HT := Lib.hid hT; clear hT
  go_wp2_with fail
  refine (RefTextC_of l v _ (H.out.1.ext H8.out) H.out.2.2.1).mono ?_
  rintro e w9 ⟨rfl, hx9⟩
  rw [HT.out]
  have H9 := Lib.hid (H8.out.trans hx9); clear hx9
  go_wp2_with fail
  go_ret
  exact ⟨rfl, H9.out⟩
end Go.Proofs.YtckdchkegbdiaaaDoor
