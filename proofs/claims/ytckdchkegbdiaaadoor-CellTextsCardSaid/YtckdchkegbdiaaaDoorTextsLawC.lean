/- The law CellTexts, walked. -/
import Derived.Test.YtckdchkegbdiaaaDoorTextsMathC
import Derived.Test.YtckdchkegbdiaaaDoorAwakeC
import Derived.Test.YtckdchkegbdiaaaDoorRefDecode
namespace Go.Proofs.YtckdchkegbdiaaaDoor
open Go Go.RowKit

theorem last_byte {T : ByteArray} {t : List UInt8} {b : UInt8} (h : bts T = t ++ [b]) (hb : b ≠ 32) :
    0 < T.size ∧ T.toList.isEmpty = false ∧ (0 : Int) ≤ (T.size : Int) - 1 ∧ ((T.size : Int) - 1).toNat = T.size - 1 ∧ ∀ hp : T.size - 1 < T.size, ((((T[T.size - 1]'hp).toNat : Nat) : Int) != 32) = true := by
  have hl := congrArg List.length h
  rw [bts_len, List.length_append, List.length_singleton] at hl
  refine ⟨by omega, list_some T (by omega), by omega, by omega, fun hp => ?_⟩
  have h1 := bts_at T (T.size - 1) hp
  rw [h, List.getElem?_append_right (by omega), show T.size - 1 - t.length = 0 by omega] at h1
  have h2 : b = T[T.size - 1] := by simpa using h1
  rw [← h2, bne_iff_ne]
  intro e
  have h3 : b.toNat = 32 := by omega
  exact hb (UInt8.toNat_inj.1 h3)
set_option maxHeartbeats 8000000 in
set_option maxRecDepth 100000 in
theorem cellTexts_true (zs : List Int) (vl : Value) (raw : List Cel) (vr : Value) (w : World) (hl : IsInts w vl zs) (hml : zs.length ≤ maxLen) (hr : IsCells w vr raw) (hmr : raw.length ≤ maxLen) (hS : Spans w) :
    Calls Tryd.prog 8 #[vl, vr] w fun e w' => e = .returned (.bool true) ∧ Ext w w' := by
  have H := Lib.hid (And.intro hl (And.intro hml (And.intro hr (And.intro hmr hS)))); clear hl hml hr hmr hS
  go_enter Tryd.func8, Tryd.ntmps8
  go_wp2_with fail
  refine (awakeC_true _ H.out.2.2.2.2).mono ?_
  rintro e w1 ⟨rfl, hx1⟩
  have H1 := Lib.hid hx1; clear hx1
  go_wp2_with fail
  refine (RowC_of zs vl _ (H.out.1.ext H1.out) H.out.2.1).mono ?_
  rintro e w2 ⟨vx, rfl, ho2, hx2⟩
  have H2 := Lib.hid (And.intro (ho2.isCells (row_ok zs)) (H1.out.trans hx2)); clear ho2 hx2
  have hrl := row_len zs
  have hRR := row_right zs
  have hms := mendL_same _ (rowL zs) (Nat.le_refl _) hRR
  have hrw := row_wide zs
  have hrd := row_decoded zs
  have hrk : ∀ r, r ∈ stripL (charsL (rowL zs)) → isI32 r := fun r hr => isI32_rune ((rows_chars (zs.take 40)).2 r (strip_mem hr))
  have hsl := Nat.le_trans (strip_len (charsL (rowL zs))) (charsL_len (rowL zs))
  have hlast := strip_last (charsL (rowL zs))
  have hok := row_ok zs
  generalize rowL zs = X at H2 hrl hms hrw hrd hrk hsl hlast hok
  have HT := fun W (hW : Ext w W) (hv : IsCells W vx X) => TextC_of X vx W hv (H.out.2.2.2.2.ext hW) (by omega)
  generalize hCS : stripL (charsL X) = CS at HT hrw hrd hrk hsl hlast
  generalize hSS : encS CS = SS at HT hrd hlast
  have hss : SS.size ≤ 4 * CS.length := by rw [← hSS]; exact encS_size CS
  obtain ⟨A, c0, rfl, hXc, hA⟩ := H2.out.1.form
  generalize hN : X.length = N at hrl hrw hsl hXc HT H2 ⊢
  have HX := Lib.hid (And.intro HT (And.intro hms (And.intro hrw (And.intro hrd (And.intro hrk (And.intro hsl (And.intro hlast (And.intro hN (And.intro hss hok))))))))); clear HT hms hrw hrd hrk hsl hlast hN hok hCS hSS hRR
  go_wp2_with fail
  refine (HX.out.1 _ H2.out.2 H2.out.1).mono ?_
  rintro e w3 ⟨rfl, hx3⟩
  have H3 := Lib.hid (And.intro (H2.out.1.ext hx3) (H2.out.2.trans hx3)); clear hx3
  go_wp2_with fail
  refine (RefDecode_any SS _ (by have := HX.out.2.2.2.2.2.1; omega)).mono ?_
  rintro e w4 ⟨v4, rfl, ho4, hx4⟩
  rw [HX.out.2.2.2.1] at ho4
  have hr4 := ho4.isRunes HX.out.2.2.2.2.1
  have H4 := Lib.hid (And.intro (H3.out.1.ext hx4) (H3.out.2.trans hx4)); clear hx4
  obtain ⟨A4, c4, rfl, hA4⟩ := ho4.form
  have hcl := HX.out.2.2.2.2.2.1
  generalize hM : CS.length = M at hr4 hcl hA4 ⊢
  have HM := Lib.hid (And.intro hr4 hM); clear hr4 hM ho4 hA4
  go_wp2_with fail
  go_loopg [8, 10] M (fun k u z wr => ∃ i : Nat, z = .int .i64 i ∧ u = .int .i64 (sumW (CS.take i)) ∧ Hid (i + k = M ∧ Ext w4 wr))
  case atStart => exact ⟨0, rfl, rfl, Nat.zero_add _, Ext.refl w4⟩
  case round =>
    obtain ⟨i, rfl, rfl, hin⟩ := hrel
    by_cases hi : i < M
    · obtain ⟨r, hr⟩ : ∃ r, CS[i]? = some r := ⟨CS[i]'(by rw [HM.out.2]; exact hi), List.getElem?_eq_getElem _⟩
      obtain ⟨hr32, g, off, rfl, hcr⟩ := HM.out.1.at hr
      have k0 := hin.out.2.cell hcr
      have hst := sumW_take CS i r hr
      have hsb := sumW_bound (CS.take i) (fun r hr => HX.out.2.2.2.2.1 r (List.mem_of_mem_take hr))
      have hwc := width_cases r hr32
      have htl : (CS.take i).length ≤ M := by rw [List.length_take, HM.out.2]; omega
      generalize sumW (CS.take i) = U at hst hsb ⊢
      have HR := Lib.hid (And.intro hr32 hst); clear hr hr32 hst hcr
      generalize hV : widthL r = V at hwc
      have HV := Lib.hid hV; clear hV
      go_wp2_with fail
      refine (RefWidth_is r _ HR.out.1).mono ?_
      rintro e w5 ⟨rfl, rfl⟩
      rw [HV.out]
      have hgk := hin.out.1
      go_wp2_with fail
      go_roundg (gk - 1)
      case measure => omega
      case rel => exact ⟨i + 1, by go_num, by rw [HR.out.2, HV.out], by show i + 1 + (gk - 1) = M; omega, hin.out.2⟩
    · have hf : CS.take i = CS := List.take_of_length_le (by rw [HM.out.2]; omega)
      rw [hf] at *
      have hsum := HX.out.2.2.1
      generalize sumW CS = U at hsum ⊢
      have HS := Lib.hid (H4.out.2.trans hin.out.2)
      go_wp2_with fail
      refine (fewC_of raw vr _ (H.out.2.2.1.ext HS.out) H.out.2.2.2.1).mono ?_
      rintro e w6 ⟨⟨v6, rfl, hv6⟩, rfl⟩
      have h40 := fewC_len raw 40
      have HF := Lib.hid hv6; clear hv6
      go_wp2_with fail
      refine (Mend_of _ v6 _ HF.out (H.out.2.2.2.2.ext HS.out) (by omega)).mono ?_
      rintro e w7 ⟨v7, rfl, ho7, hx7⟩
      have hi7 := ho7.isCells (mendL_ok HF.out.all)
      have hyl := mendL_length (fewC raw 40)
      generalize mendL (fewC raw 40) = Y at hi7 hyl
      have HX7 := Lib.hid hx7
      have H7 := Lib.hid (And.intro hi7 (HS.out.trans hx7)); clear hi7 hx7 ho7
      go_wp2_with fail
      refine (TextC_of Y v7 _ H7.out.1 (H.out.2.2.2.2.ext H7.out.2) (by omega)).mono ?_
      rintro e w8 ⟨rfl, hx8⟩
      have hl8 := strip_last (charsL Y)
      have hz8 : (encS (stripL (charsL Y))).size ≤ 160 := by
        have h1 := encS_size (stripL (charsL Y))
        have h2 := strip_len (charsL Y)
        have h3 := charsL_len Y
        omega
      generalize encS (stripL (charsL Y)) = T at hl8 hz8
      have H8 := Lib.hid (H7.out.2.trans hx8)
      have H78 := Lib.hid (HX7.out.trans hx8); clear hx8
      have HL8 := Lib.hid hl8; clear hl8
      go_wp2_with fail
      refine (Mend_of X _ _ ((H4.out.1.ext hin.out.2).ext H78.out) (H.out.2.2.2.2.ext H8.out) (by rw [HX.out.2.2.2.2.2.2.2.1]; omega)).mono ?_
      rintro e w9 ⟨v9, rfl, ho9, hx9⟩
      rw [HX.out.2.1] at ho9
      have H9 := Lib.hid (And.intro (ho9.isCells HX.out.2.2.2.2.2.2.2.2.2) (And.intro (((H4.out.1.ext hin.out.2).ext H78.out).ext hx9) (H8.out.trans hx9))); clear ho9 hx9
      go_wp2_with fail
      refine (SameC_of X X _ _ _ H9.out.1 H9.out.2.1 (by rw [HX.out.2.2.2.2.2.2.2.1]; unfold maxLen; omega)).mono ?_
      rintro e w10 ⟨rfl, hx10⟩
      rw [decide_eq_true (rfl : X = X)]
      have H10 := Lib.hid (H9.out.2.2.trans hx10); clear hx10
      have hl3 := HX.out.2.2.2.2.2.2.1
      have hz3 := HX.out.2.2.2.2.2.2.2.2.1
      have hz4 : SS.size ≤ 400 := by have := HM.out.2; omega
      clear hz3
      have hempty : ∀ B : ByteArray, B.size = 0 → B = ⟨#[]⟩ := fun B h => by
        apply ByteArray.ext
        exact Array.eq_empty_of_size_eq_zero h
      rcases hl3 with h3 | ⟨t3, b3, hb3, hn3⟩
      · obtain rfl := hempty _ h3
        rcases HL8.out with h8 | ⟨t8, b8, hb8, hn8⟩
        · obtain rfl := hempty _ h8
          go_wp2_with fail
          go_ret
          exact ⟨by simp, H10.out⟩
        · obtain ⟨p1, p2, p3, p4, p5⟩ := last_byte hb8 hn8
          clear hb8 hn8
          go_wp2_with fail
          go_ret
          exact ⟨by simp, H10.out⟩
      · obtain ⟨s1, s2, s3, s4, s5⟩ := last_byte hb3 hn3
        clear hb3 hn3
        rcases HL8.out with h8 | ⟨t8, b8, hb8, hn8⟩
        · obtain rfl := hempty _ h8
          go_wp2_with fail
          go_ret
          exact ⟨by simp, H10.out⟩
        · obtain ⟨p1, p2, p3, p4, p5⟩ := last_byte hb8 hn8
          clear hb8 hn8
          go_wp2_with fail
          go_ret
          exact ⟨by simp, H10.out⟩
end Go.Proofs.YtckdchkegbdiaaaDoor
