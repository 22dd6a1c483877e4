/- The chapter's example; a row cut short. -/
import Derived.Test.YtckdchkegbdiaaaDoorBytesC
import Derived.Test.YtckdchkegbdiaaaDoorMend
namespace Go.Proofs.YtckdchkegbdiaaaDoor
open Go Go.RowKit

theorem awake_bytes : bytesL [Cel.blank, Cel.blank, Cel.blank] = [4, 64, 0, 0, 0] := by
  have h1 : rightL [Cel.blank, Cel.blank, Cel.blank] = true := by decide
  have h2 : runsL [Cel.blank, Cel.blank, Cel.blank] = [(3, Cel.blank)] := by decide
  have e1 : encN 4 = [4] := encN_small (by decide)
  have e2 : encN 64 = [64] := encN_small (by decide)
  have e3 : encN 0 = [0] := encN_small (by decide)
  unfold bytesL
  rw [if_pos h1, h2]
  show encN 4 ++ (encN 64 ++ (encN 0 ++ (encN 0 ++ (encN 0 ++ [])))) ++ [] = _
  rw [e1, e2, e3]; rfl
theorem blank_ok : Cel.blank.ok := by unfold Cel.ok Cel.blank isI32 isU8; simp only; omega
set_option maxHeartbeats 1000000 in
set_option maxRecDepth 100000 in
theorem awakeC_true (w : World) (hS : Spans w) : Calls Tryd.prog 9 #[] w fun e w' => e = .returned (.bool true) ∧ Ext w w' := by
  go_enter Tryd.func9, Tryd.ntmps9
  go_wp2_with fail
  refine (Blank_of _).mono ?_
  rintro e w1 ⟨rfl, hx⟩
  have H1 := Lib.hid (And.intro hS hx); clear hS hx
  dsimp only [Cel.val, Cel.blank]
  go_wp2_with fail
  have hown := OwnC.new (w1.alloc (.cells #[.int .i32 32, .int .u8 0, .int .u8 0, .int .u8 0] 25)) [Cel.blank, Cel.blank, Cel.blank] (by decide)
  rw [World.size_alloc] at hown
  have hx2 := (Ext.refl w1).alloc (.cells #[.int .i32 32, .int .u8 0, .int .u8 0, .int .u8 0] 25)
  have hx3 := hx2.trans ((Ext.refl _).alloc (.cells (cellsC [Cel.blank, Cel.blank, Cel.blank]).toArray 25))
  have hok : ∀ x, x ∈ [Cel.blank, Cel.blank, Cel.blank] → x.ok := fun x hx => by
    have : x = Cel.blank := by simpa using hx
    rw [this]; exact blank_ok
  refine (BytesC_of [Cel.blank, Cel.blank, Cel.blank] _ _ (hown.isCells hok) ((H1.out.1.ext H1.out.2).ext hx3) (by decide)).mono ?_
  rintro e w4 ⟨rfl, hx4⟩
  rw [awake_bytes]
  have H4 := Lib.hid (H1.out.2.trans (hx3.trans hx4)); clear hx4 hx3 hx2 hown
  go_wp2
  go_ret
  exact ⟨rfl, H4.out⟩
theorem fewC_of (l : List Cel) (v : Value) (w : World) (hv : IsCells w v l) (hm : l.length ≤ maxLen) : Calls Tryd.prog 10 #[v] w fun e w' => (∃ v', e = .returned v' ∧ IsCells w v' (fewC l 40)) ∧ w' = w := by
  have hm2 : l.length ≤ 9223372036854775807 := hm
  obtain ⟨A, c, rfl, hc, _⟩ := hv.form
  by_cases h : 40 < l.length
  · have he : fewC l 40 = l.take 40 := if_pos h
    have H := Lib.hid (And.intro he (hv.cut 40 (by omega))); clear he hv
    go_enter Tryd.func10, Tryd.ntmps10
    go_wp2
    go_ret
    exact ⟨⟨_, rfl, by rw [H.out.1]; exact H.out.2⟩, rfl⟩
  · have he : fewC l 40 = l := if_neg h
    have H := Lib.hid (And.intro he hv); clear he hv
    go_enter Tryd.func10, Tryd.ntmps10
    go_wp2
    go_ret
    exact ⟨⟨_, rfl, by rw [H.out.1]; exact H.out.2⟩, rfl⟩
end Go.Proofs.YtckdchkegbdiaaaDoor
