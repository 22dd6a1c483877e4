/- The law CellMends, walked. -/
import Derived.Test.YtckdchkegbdiaaaDoorAwakeC
namespace Go.Proofs.YtckdchkegbdiaaaDoor
open Go Go.RowKit
attribute [local go_sem 10000] eq_cel

theorem mend_or (l : List Cel) (i : Nat) (x : Cel) (h : l[i]? = some x) : (mendL l)[i]? = some x ∨ (mendL l)[i]? = some x.gone := by
  have := mend_at _ l none (Nat.le_refl _) rfl i x h
  rw [this]
  unfold mendP
  split
  · exact .inl rfl
  · exact .inr rfl
set_option maxHeartbeats 8000000 in
set_option maxRecDepth 100000 in
theorem cellMends_true (l0 : List Cel) (v : Value) (w : World) (hv : IsCells w v l0) (hm : l0.length ≤ maxLen) (hS : Spans w) :
    Calls Tryd.prog 6 #[v] w fun e w' => e = .returned (.bool true) ∧ Ext w w' := by
  have H := Lib.hid (And.intro hv (And.intro hm hS)); clear hv hm hS
  go_enter Tryd.func6, Tryd.ntmps6
  go_wp2_with fail
  refine (awakeC_true _ H.out.2.2).mono ?_
  rintro e w1 ⟨rfl, hx1⟩
  have H1 := Lib.hid hx1; clear hx1
  go_wp2_with fail
  refine (fewC_of l0 v _ (H.out.1.ext H1.out) H.out.2.1).mono ?_
  rintro e w2 ⟨⟨v2, rfl, h2⟩, rfl⟩
  have hl := fewC_len l0 40
  generalize fewC l0 40 = l at h2 hl
  have H2 := Lib.hid h2; clear h2
  go_wp2_with fail
  refine (Mend_of l v2 _ H2.out (H.out.2.2.ext H1.out) (by omega)).mono ?_
  rintro e w3 ⟨v3, rfl, ho3, hx3⟩
  have hml := mendL_length l
  have H3 := Lib.hid (And.intro (ho3.isCells (mendL_ok H2.out.all)) (And.intro (H1.out.trans hx3) (H2.out.ext hx3))); clear ho3 hx3
  go_wp2_with fail
  refine (Mend_of (mendL l) v3 _ H3.out.1 (H.out.2.2.ext H3.out.2.1) (by omega)).mono ?_
  rintro e w4 ⟨v4, rfl, ho4, hx4⟩
  rw [mendL_again] at ho4
  have H4 := Lib.hid (And.intro (H3.out.1.ext hx4) (And.intro (ho4.isCells (mendL_ok H2.out.all)) (And.intro (H3.out.2.1.trans hx4) (H3.out.2.2.ext hx4)))); clear ho4 hx4
  go_wp2_with fail
  refine (SameC_of (mendL l) (mendL l) v3 v4 _ H4.out.1 H4.out.2.1 (by unfold maxLen; omega)).mono ?_
  rintro e w5 ⟨rfl, hx5⟩
  rw [show decide (mendL l = mendL l) = true by simp]
  have H5 := Lib.hid (And.intro (H4.out.1.ext hx5) (And.intro (H4.out.2.2.2.ext hx5) (H4.out.2.2.1.trans hx5))); clear hx5
  obtain ⟨A, c, rfl, hlc, hA⟩ := H5.out.2.1.form
  obtain ⟨B, d, rfl, hld, hB⟩ := H5.out.1.form
  have hor := mend_or l
  have hrt := mendL_right _ l (Nat.le_refl _)
  have hkp := kept_iff l
  generalize hM : mendL l = M at *
  generalize hL : l.length = L at *
  have HL := Lib.hid (And.intro hor (And.intro hL (And.intro hml (And.intro hrt hkp)))); clear hM hL hor hrt hkp
  rw [hml] at hld H3 H4 H5 ⊢
  clear hml
  go_wp2_with fail
  refine (Right_of M _ _ H5.out.1 (H.out.2.2.ext H5.out.2.2) (by rw [HL.out.2.2.1]; unfold maxLen; omega)).mono ?_
  rintro e w6 ⟨rfl, hx6⟩
  rw [HL.out.2.2.2.1]
  have H6 := Lib.hid (And.intro (H5.out.1.ext hx6) (And.intro (H5.out.2.1.ext hx6) (H5.out.2.2.trans hx6))); clear hx6
  go_wp2_with fail
  go_loopg [8] L (fun k u wr => ∃ i : Nat, u = .int .i64 i ∧ Hid (i + k = L ∧ Ext w6 wr))
  case atStart => exact ⟨0, rfl, Nat.zero_add _, Ext.refl w6⟩
  case round =>
    obtain ⟨i, rfl, hin⟩ := hrel
    by_cases hi : i < L
    · obtain ⟨x, hx⟩ : ∃ x, l[i]? = some x := ⟨l[i]'(by rw [HL.out.2.1]; exact hi), List.getElem?_eq_getElem _⟩
      obtain ⟨_, g, off, rfl, hcx⟩ := H6.out.2.1.at hx
      rcases HL.out.1 i x hx with hy | hy
      · obtain ⟨_, g', off', rfl, hcy⟩ := H6.out.1.at hy
        obtain ⟨r, f, b, a⟩ := x
        obtain ⟨k0, k1, k2, k3⟩ := (hcx.ext hin.out.2).four
        obtain ⟨m0, m1, m2, m3⟩ := (hcy.ext hin.out.2).four
        clear hcx hcy hx hy
        have hq : celEq ⟨r, f, b, a⟩ ⟨r, f, b, a⟩ = true := celEq_true.2 rfl
        go_wp2_with fail
        go_quiet (fail)
        have HX := Lib.hid (hin.out.2.drewN nq)
        clear k0 k1 k2 k3 m0 m1 m2 m3 hq
        have hgk := hin.out.1
        go_wp2_with fail
        go_roundg (gk - 1)
        case measure => omega
        case rel => exact ⟨i + 1, by go_num, by show i + 1 + (gk - 1) = L; omega, HX.out⟩
      · obtain ⟨_, g', off', rfl, hcy⟩ := H6.out.1.at hy
        obtain ⟨r, f, b, a⟩ := x
        obtain ⟨k0, k1, k2, k3⟩ := (hcx.ext hin.out.2).four
        obtain ⟨m0, m1, m2, m3⟩ := (hcy.ext hin.out.2).four
        clear hcx hcy hx hy
        generalize hE : celEq ⟨32, f, b, 0⟩ ⟨r, f, b, a⟩ = E
        cases E
        all_goals
          go_wp2_with fail
          go_quiet (fail)
          have HX := Lib.hid (hin.out.2.drewN nq)
          clear k0 k1 k2 k3 m0 m1 m2 m3 hE
          have hgk := hin.out.1
          go_wp2_with fail
          go_roundg (gk - 1)
          case measure => omega
          case rel => exact ⟨i + 1, by go_num, by show i + 1 + (gk - 1) = L; omega, HX.out⟩
    · go_wp2_with fail
      refine (SameC_of l M _ _ _ (H6.out.2.1.ext hin.out.2) (H6.out.1.ext hin.out.2) (by rw [HL.out.2.1]; unfold maxLen; omega)).mono ?_
      rintro e w7 ⟨rfl, hx7⟩
      have hk : decide (l = M) = rightL l := by
        have := HL.out.2.2.2.2
        cases h : rightL l
        · rw [h] at this; simp at this; simpa using this
        · rw [h] at this; simpa using this
      rw [hk]
      have H7 := Lib.hid (hin.out.2.trans hx7); clear hx7 hk
      generalize hR : rightL l = R
      have HR := Lib.hid hR; clear hR
      go_wp2_with fail
      refine (Right_of l _ _ (H6.out.2.1.ext H7.out) ((H.out.2.2.ext H6.out.2.2).ext H7.out) (by rw [HL.out.2.1]; unfold maxLen; omega)).mono ?_
      rintro e w8 ⟨rfl, hx8⟩
      rw [HR.out]
      have H8 := Lib.hid (H6.out.2.2.trans (H7.out.trans hx8)); clear hx8
      go_wp2_with fail
      go_ret
      exact ⟨by cases R <;> rfl, H8.out⟩
end Go.Proofs.YtckdchkegbdiaaaDoor
