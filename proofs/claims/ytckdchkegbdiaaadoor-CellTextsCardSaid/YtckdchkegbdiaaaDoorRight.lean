/- Are two rows of cells the same? Is a row right? -/
import Derived.Test.YtckdchkegbdiaaaDoorWhole
namespace Go.Proofs.YtckdchkegbdiaaaDoor
open Go Go.RowKit
attribute [local go_sem 10000] eq_cel

theorem cells_nothing (w : World) (A : Option Addr) (c : Nat) (h : A = none → c = 0) : IsCells w (.slice A 0 c) [] := ⟨A, c, rfl, ⟨Nat.zero_le _, h⟩, fun i x hi => by cases hi⟩
set_option maxHeartbeats 4000000 in
set_option maxRecDepth 100000 in
theorem Right_of (l : List Cel) (v : Value) (w : World) (hv : IsCells w v l) (hS : Spans w) (hm : l.length ≤ maxLen) : Calls Tryd.prog 29 #[v] w fun e w' => e = .returned (.bool (rightL l)) ∧ Ext w w' := by
  obtain ⟨A, c, rfl, hlc, hA⟩ := hv.form
  have H := Lib.hid (And.intro hv (And.intro hS hm)); clear hv hS hm hlc hA
  go_enter Tryd.func29, Tryd.ntmps29
  go_wp2
  go_loopg [0] l.length (fun k u wr => ∃ (m : List Cel), Hid (m.length = k ∧ rightL m = rightL l ∧ m.length ≤ l.length ∧ IsCells wr u m ∧ Ext w wr))
  case atStart => exact ⟨l, rfl, rfl, Nat.le_refl _, H.out.1, Ext.refl w⟩
  case round =>
    obtain ⟨m, hin⟩ := hrel
    obtain ⟨B, d, hu, hmd, hB⟩ := hin.out.2.2.2.1.form
    subst hu
    generalize hK : m.length = K at hmd ⊢
    have HK := Lib.hid hK; clear hK
    cases K with
    | zero =>
      have h0 : rightL l = true := by rw [← hin.out.2.1, List.eq_nil_of_length_eq_zero HK.out]; rfl
      have H0 := Lib.hid h0; clear h0
      go_wp2
      go_ret
      exact ⟨by rw [H0.out]; rfl, hin.out.2.2.2.2⟩
    | succ K =>
      have hp : 0 < K + 1 := Nat.succ_pos K
      have hv : IsCells wr (.slice B (K + 1) d) m := HK.out ▸ hin.out.2.2.2.1
      obtain ⟨g, off, rfl⟩ := hv.addr (by rw [HK.out]; omega)
      have HV := Lib.hid hv; clear hv
      go_wp2_with fail
      refine (whole_of m _ wr HV.out (by rw [HK.out]; omega) (H.out.2.1.ext hin.out.2.2.2.2)).mono ?_
      rintro e w2 ⟨rfl, hx⟩
      have HX := Lib.hid hx; clear hx
      have hstep := rightL_step m (by intro e; rw [e] at HK; have := HK.out; simp at this)
      have hle := wholeL_le m
      rw [HK.out] at hle
      generalize wholeL m = S at hstep hle ⊢
      have HS := Lib.hid hstep; clear hstep
      cases S with
      | zero =>
        have h0 : rightL l = false := by rw [← hin.out.2.1, HS.out]; rfl
        have H0 := Lib.hid h0; clear h0
        go_wp2
        go_ret
        exact ⟨by rw [H0.out]; rfl, hin.out.2.2.2.2.trans HX.out⟩
      | succ S =>
        have hr1 : rightL (m.drop (S + 1)) = rightL l := by rw [← hin.out.2.1, HS.out]; simp
        have hr2 : (m.drop (S + 1)).length = K - S := by rw [List.length_drop, HK.out]; omega
        have HR := Lib.hid (And.intro hr1 hr2); clear hr1 hr2
        have hgk := hin.out.1
        rw [HK.out] at hgk
        have hlm := hin.out.2.2.1
        rw [HK.out] at hlm
        have HG := Lib.hid (And.intro hgk hlm); clear hgk hlm
        go_wp2
        · rename_i hd
          have hD := hd
          clear hd
          go_roundg (K - S)
          case measure => have := HG.out; omega
          case rel =>
            refine ⟨m.drop (S + 1), HR.out.2, HR.out.1, by rw [HR.out.2]; have := HG.out; omega, ?_, hin.out.2.2.2.2.trans HX.out⟩
            have e : m.drop (S + 1) = [] := List.eq_nil_of_length_eq_zero (by rw [HR.out.2]; omega)
            rw [e, show K - S = 0 by omega]
            exact cells_nothing _ _ _ (fun e => by cases e)
        · go_roundg (K - S)
          case measure => have := HG.out; omega
          case rel =>
            refine ⟨m.drop (S + 1), HR.out.2, HR.out.1, by rw [HR.out.2]; have := HG.out; omega, ?_, hin.out.2.2.2.2.trans HX.out⟩
            have := (HV.out.ext HX.out).drop (S + 1) (by rw [HK.out]; omega)
            rwa [HK.out, Nat.add_sub_add_right] at this
end Go.Proofs.YtckdchkegbdiaaaDoor
