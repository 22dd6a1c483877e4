/- The law NumsBack, walked. -/
import Derived.Test.YtcfboalepnbifaaDoorBackMath
import Derived.Test.YtcfboalepnbifaaDoorTellN
import Derived.Test.YtcfboalepnbifaaDoorAwakeN
import Derived.Test.YtcfboalepnbifaaDoorCutInts
namespace Go.Proofs.YtcfboalepnbifaaDoor
open Go Go.RowKit

set_option maxHeartbeats 4000000 in
set_option maxRecDepth 100000 in
theorem numsBack_true (zs : List Int) (v : Value) (s t : ByteArray) (w : World) (hv : IsInts w v zs) (hm : zs.length ≤ maxLen) (hg : ErrType w) :
    Calls Tryd.prog 4 #[v, .string s, .string t] w fun e w' => e = .returned (.bool true) ∧ Ext w w' := by
  obtain ⟨A, c, rfl, hc, _⟩ := hv.form
  unfold maxLen at hm
  by_cases h : 12 < zs.length
  · obtain ⟨ga, offa, rfl⟩ := hv.addr (by omega)
    have hI := hv.cut 12 (by omega)
    have hal : (zs.take 12).length = 12 := by rw [List.length_take]; omega
    generalize zs.take 12 = ys at hI hal
    have hcA : (12 : Nat) ≤ c := by omega
    have hly : ys.length ≤ 12 := by omega
    have hLen := putN_len ys hI.all
    have H := Lib.hid (And.intro hI hal); clear hI hal hv
    have HG := Lib.hid (And.intro hg hLen); clear hg hLen
    go_enter Tryd.func4, Tryd.ntmps4
    go_wp2_with fail
    refine (awakeN_true _).mono ?_
    rintro e w1 ⟨rfl, hx1⟩
    have H1 := Lib.hid hx1; clear hx1
    go_wp2_with fail
    refine (shortN_of s 100 _ (by decide)).mono ?_
    rintro e w2 ⟨rfl, rfl⟩
    have hsa := shortOf_le s 100
    generalize shortOf s 100 = sa at hsa ⊢
    go_wp2_with fail
    refine (shortN_of t 100 _ (by decide)).mono ?_
    rintro e w2 ⟨rfl, rfl⟩
    have hsb := shortOf_le t 100
    generalize shortOf t 100 = sb at hsb ⊢
    obtain ⟨U1, hU1⟩ : ∃ U, U = (⟨(encN (2 * sa.size) ++ bts sa).toArray⟩ : ByteArray) := ⟨_, rfl⟩
    obtain ⟨U2, hU2⟩ : ∃ U, U = (⟨(putN ys).toArray⟩ : ByteArray) := ⟨_, rfl⟩
    obtain ⟨U3, hU3⟩ : ∃ U, U = (⟨(encN (2 * sb.size) ++ bts sb).toArray⟩ : ByteArray) := ⟨_, rfl⟩
    have hz1 : U1.size ≤ 110 := by
      rw [hU1, size_mk, List.length_append, bts_len]
      have := encN_len10 (u := 2 * sa.size) (by omega)
      omega
    have hz2 : U2.size ≤ 120 := by
      have := HG.out.2
      rw [hU2, size_mk]; omega
    have hz3 : U3.size ≤ 110 := by
      rw [hU3, size_mk, List.length_append, bts_len]
      have := encN_len10 (u := 2 * sb.size) (by omega)
      omega
    have hB : bts (U1 ++ U2 ++ U3) = packed (bts sa) ys (bts sb) := by
      rw [bts_append, bts_append, hU1, hU2, hU3, bts_mk (_ ++ _), bts_mk (putN ys), bts_mk (_ ++ _)]
      unfold packed
      rw [bts_len, bts_len]
    have hBz : (U1 ++ U2 ++ U3).size ≤ 340 := by rw [ByteArray.size_append, ByteArray.size_append]; omega
    have HU := Lib.hid (And.intro hU1 (And.intro hU2 hU3)); clear hU1 hU2 hU3
    have HB := Lib.hid hB; clear hB
    go_wp2_with fail
    refine (PutText_any sa _ (by omega)).mono ?_
    rintro e w3 ⟨rfl, hx3⟩
    rw [← HU.out.1]
    have H3 := Lib.hid (H1.out.trans hx3); clear hx3
    go_wp2_with fail
    refine (Put_ints ys _ _ (H.out.1.ext H3.out) (by omega)).mono ?_
    rintro e w4 ⟨rfl, hx4⟩
    rw [← HU.out.2.1]
    have H4 := Lib.hid (H3.out.trans hx4); clear hx4
    go_wp2_with fail
    refine (PutText_any sb _ (by omega)).mono ?_
    rintro e w5 ⟨rfl, hx5⟩
    rw [← HU.out.2.2]
    have H5 := Lib.hid (H4.out.trans hx5); clear hx5
    go_wp2_with fail
    generalize U1 ++ U2 ++ U3 = B at HB hBz ⊢
    have hpa : (bts sa).length ≤ 100 := by rw [bts_len]; exact hsa
    have hpb : (bts sb).length ≤ 100 := by rw [bts_len]; exact hsb
    have hfirst := pack_first (bts sa) ys (bts sb) B HB.out hpa
    have hlast := pack_last (bts sa) ys (bts sb) B HB.out hpb
    rw [mk_bts] at hfirst hlast
    have hpk : B.size = packP (bts sa) ys ys.length + ((encN (2 * (bts sb).length)).length + (bts sb).length) := by rw [← bts_len, HB.out, packed_len]
    rw [← HB.out, bts_len, bts_len] at hlast
    have hep := encN_pos (2 * (bts sb).length)
    have HF := Lib.hid (And.intro hfirst (And.intro hlast (And.intro hpk hep))); clear hfirst hlast hpk hep hpa hpb
    refine (Of_any B w5 (by omega)).mono ?_
    rintro e w6 ⟨g, rfl, hr6, hx6, hgl⟩
    have H6 := Lib.hid (And.intro hr6 (And.intro (H5.out.trans hx6) (Nat.le_trans H5.out.size hgl))); clear hr6 hx6 hgl
    go_wp2_with fail
    refine (Text_at w6 g B 0 100 (by omega) (Nat.zero_le _) H6.out.1).mono ?_
    rintro e w7 ⟨rfl, hr7, hx7⟩
    rw [HF.out.1] at hr7 ⊢
    have H7 := Lib.hid (And.intro hr7 (show Ext w w7 from Below.trans H6.out.2.1 (hx7.below H6.out.2.2 H6.out.2.1.size))); clear hr7 hx7
    go_wp2
    go_loopg [9] 12 (fun k j wr => ∃ (i : Nat), Hid (i + k = 12) ∧ j = .int .i64 i ∧ Hid (RowAt wr g B (packP (bts sa) ys i) 0 ∧ Ext w wr))
    case atStart => exact ⟨0, Nat.zero_add _, rfl, H7.out.1, H7.out.2⟩
    case round =>
      obtain ⟨i, hi, rfl, hinv⟩ := hrel
      by_cases hlt : i < 12
      · obtain ⟨n, hin⟩ : ∃ n, ys[i]? = some n := ⟨ys[i]'(by have := H.out.2; omega), List.getElem?_eq_getElem (by have := H.out.2; omega)⟩
        obtain ⟨hr, hcell⟩ := H.out.1.at' hin
        have hnum := pack_num (bts sa) ys (bts sb) B HB.out i n hin hr
        have hc1 := hinv.out.2.cell hcell
        have hgne : ga ≠ g := by have := lt_of_cell hcell; have := H6.out.2.2; simp at *; omega
        have hstep := packP_step (bts sa) ys i n hin
        have hbd : packP (bts sa) ys i ≤ B.size := by have := packP_le (bts sa) ys i; have := HF.out.2.2.1; omega
        have HN := Lib.hid (And.intro hnum (And.intro hstep (And.intro hcell (And.intro hgne hbd)))); clear hnum hstep hcell hgne hbd hin
        have b0 : (0 : Int) ≤ (i : Int) := by omega
        have b1 : (i : Int) < (12 : Nat) := by omega
        have hNum : ∀ W : World, RowAt W g B (packP (bts sa) ys i) 0 → Calls Tryd.prog 16 #[.pointer (some ⟨g, 0, none⟩), .int .i64 n, .int .i64 n] W fun e w' => e = .returned (.int .i64 n) ∧ RowAt w' g B (packP (bts sa) ys (i + 1)) 0 ∧ Only g W w' := fun W hW => by
          have h0 := Num_at W g B (packP (bts sa) ys i) n n (by omega) HN.out.2.2.2.2 hW
          rw [HN.out.1] at h0
          dsimp only at h0
          rw [HN.out.2.1] at h0
          exact h0
        have HNum := Lib.hid hNum; clear hNum
        go_wp2_with fail
        go_region_held3 (fun w' => w'.cell? ⟨ga, offa + i, none⟩ = some (.int .i64 n)) (first | exact gS | go_keep) ((go_at_call 16; refine (HNum.out _ hinv.out.1.drew).mono ?_; rintro e w8 ⟨rfl, hr8, hx8⟩; have gS : w8.cell? ⟨ga, offa + i, none⟩ = some (.int .i64 n) := hx8.cell HN.out.2.2.2.1 hc1))
        all_goals
          have H8 := Lib.hid (And.intro hr8 (show Ext w w8 from Below.trans hinv.out.2.drew (hx8.below H6.out.2.2 hinv.out.2.size))); clear hr8 hx8 gS
          go_wp2
          go_roundg (gk - 1)
          case measure => have := hi.out; omega
          case rel =>
            refine ⟨i + 1, ?_, by go_num, H8.out.1, H8.out.2⟩
            show i + 1 + (gk - 1) = 12
            have := hi.out; omega
      · have hil : i = ys.length := by have := hi.out; have := H.out.2; omega
        have H8 := Lib.hid (And.intro (show RowAt wr g B (packP (bts sa) ys ys.length) 0 by have := hinv.out.1; rw [hil] at this; exact this) hinv.out.2)
        have HI := Lib.hid hil; clear hil
        have hpl : packP (bts sa) ys ys.length < B.size := by have := HF.out.2.2.1; have := HF.out.2.2.2; omega
        generalize hPP : packP (bts sa) ys ys.length = PP at H8 HF hpl
        have HPP := Lib.hid hPP; clear hPP
        go_wp2_with fail
        refine (End_left wr g B PP hpl H8.out.1).mono ?_
        rintro e w9 ⟨rfl, hx9⟩
        have H9 := Lib.hid (And.intro (H8.out.1.ext hx9) (H8.out.2.trans hx9)); clear hx9
        go_wp2_with fail
        refine (Is_placed 10 PP 10 w9 (by decide) (by decide) (by decide) (by omega) (by omega)).mono ?_
        rintro e w10 ⟨rfl, hx10⟩
        rw [show ((10 : Int) == 10) = true from rfl]
        have H10 := Lib.hid (And.intro (H9.out.1.ext hx10) (H9.out.2.trans hx10)); clear hx10
        go_wp2_with fail
        refine (Text_at w10 g B PP sb.size (by omega) (by omega) H10.out.1).mono ?_
        rintro e w11 ⟨rfl, hr11, hx11⟩
        rw [HF.out.2.1] at hr11 ⊢
        have H11 := Lib.hid (And.intro hr11 (show Ext w w11 from Below.trans H10.out.2 (hx11.below H6.out.2.2 H10.out.2.size))); clear hr11 hx11
        go_wp2_with fail
        refine (End_done w11 g B B.size rfl H11.out.1).mono ?_
        rintro e w12 ⟨rfl, hx12⟩
        have H12 := Lib.hid (And.intro (H11.out.1.ext hx12) (H11.out.2.trans hx12)); clear hx12
        go_wp2_with fail
        refine (Code_nil w12).mono ?_
        rintro e w13 ⟨rfl, hx13⟩
        have H13 := Lib.hid (And.intro (H12.out.1.ext hx13) (H12.out.2.trans hx13)); clear hx13
        go_wp2_with fail
        refine (Err_ok w13 g B B.size H13.out.1).mono ?_
        rintro e w14 ⟨rfl, hx14⟩
        have H14 := Lib.hid (H13.out.2.trans hx14); clear hx14
        go_wp2_with fail
        refine (Code_nil w14).mono ?_
        rintro e w15 ⟨rfl, hx15⟩
        have H15 := Lib.hid (H14.out.trans hx15); clear hx15
        go_wp2
        go_ret
        exact ⟨rfl, H15.out⟩
  · have hI := hv
    obtain ⟨ys, hyz⟩ : ∃ ys, ys = zs := ⟨_, rfl⟩
    subst hyz
    have hal : ys.length = ys.length := rfl
    have hly : ys.length ≤ 12 := by omega
    have hLen := putN_len ys hI.all
    have H := Lib.hid (And.intro hI hal); clear hI hal hv
    have HG := Lib.hid (And.intro hg hLen); clear hg hLen
    go_enter Tryd.func4, Tryd.ntmps4
    go_wp2_with fail
    refine (awakeN_true _).mono ?_
    rintro e w1 ⟨rfl, hx1⟩
    have H1 := Lib.hid hx1; clear hx1
    go_wp2_with fail
    refine (shortN_of s 100 _ (by decide)).mono ?_
    rintro e w2 ⟨rfl, rfl⟩
    have hsa := shortOf_le s 100
    generalize shortOf s 100 = sa at hsa ⊢
    go_wp2_with fail
    refine (shortN_of t 100 _ (by decide)).mono ?_
    rintro e w2 ⟨rfl, rfl⟩
    have hsb := shortOf_le t 100
    generalize shortOf t 100 = sb at hsb ⊢
    obtain ⟨U1, hU1⟩ : ∃ U, U = (⟨(encN (2 * sa.size) ++ bts sa).toArray⟩ : ByteArray) := ⟨_, rfl⟩
    obtain ⟨U2, hU2⟩ : ∃ U, U = (⟨(putN ys).toArray⟩ : ByteArray) := ⟨_, rfl⟩
    obtain ⟨U3, hU3⟩ : ∃ U, U = (⟨(encN (2 * sb.size) ++ bts sb).toArray⟩ : ByteArray) := ⟨_, rfl⟩
    have hz1 : U1.size ≤ 110 := by
      rw [hU1, size_mk, List.length_append, bts_len]
      have := encN_len10 (u := 2 * sa.size) (by omega)
      omega
    have hz2 : U2.size ≤ 120 := by
      have := HG.out.2
      rw [hU2, size_mk]; omega
    have hz3 : U3.size ≤ 110 := by
      rw [hU3, size_mk, List.length_append, bts_len]
      have := encN_len10 (u := 2 * sb.size) (by omega)
      omega
    have hB : bts (U1 ++ U2 ++ U3) = packed (bts sa) ys (bts sb) := by
      rw [bts_append, bts_append, hU1, hU2, hU3, bts_mk (_ ++ _), bts_mk (putN ys), bts_mk (_ ++ _)]
      unfold packed
      rw [bts_len, bts_len]
    have hBz : (U1 ++ U2 ++ U3).size ≤ 340 := by rw [ByteArray.size_append, ByteArray.size_append]; omega
    have HU := Lib.hid (And.intro hU1 (And.intro hU2 hU3)); clear hU1 hU2 hU3
    have HB := Lib.hid hB; clear hB
    go_wp2_with fail
    refine (PutText_any sa _ (by omega)).mono ?_
    rintro e w3 ⟨rfl, hx3⟩
    rw [← HU.out.1]
    have H3 := Lib.hid (H1.out.trans hx3); clear hx3
    go_wp2_with fail
    refine (Put_ints ys _ _ (H.out.1.ext H3.out) (by omega)).mono ?_
    rintro e w4 ⟨rfl, hx4⟩
    rw [← HU.out.2.1]
    have H4 := Lib.hid (H3.out.trans hx4); clear hx4
    go_wp2_with fail
    refine (PutText_any sb _ (by omega)).mono ?_
    rintro e w5 ⟨rfl, hx5⟩
    rw [← HU.out.2.2]
    have H5 := Lib.hid (H4.out.trans hx5); clear hx5
    go_wp2_with fail
    generalize U1 ++ U2 ++ U3 = B at HB hBz ⊢
    have hpa : (bts sa).length ≤ 100 := by rw [bts_len]; exact hsa
    have hpb : (bts sb).length ≤ 100 := by rw [bts_len]; exact hsb
    have hfirst := pack_first (bts sa) ys (bts sb) B HB.out hpa
    have hlast := pack_last (bts sa) ys (bts sb) B HB.out hpb
    rw [mk_bts] at hfirst hlast
    have hpk : B.size = packP (bts sa) ys ys.length + ((encN (2 * (bts sb).length)).length + (bts sb).length) := by rw [← bts_len, HB.out, packed_len]
    rw [← HB.out, bts_len, bts_len] at hlast
    have hep := encN_pos (2 * (bts sb).length)
    have HF := Lib.hid (And.intro hfirst (And.intro hlast (And.intro hpk hep))); clear hfirst hlast hpk hep hpa hpb
    refine (Of_any B w5 (by omega)).mono ?_
    rintro e w6 ⟨g, rfl, hr6, hx6, hgl⟩
    have H6 := Lib.hid (And.intro hr6 (And.intro (H5.out.trans hx6) (Nat.le_trans H5.out.size hgl))); clear hr6 hx6 hgl
    go_wp2_with fail
    refine (Text_at w6 g B 0 100 (by omega) (Nat.zero_le _) H6.out.1).mono ?_
    rintro e w7 ⟨rfl, hr7, hx7⟩
    rw [HF.out.1] at hr7 ⊢
    have H7 := Lib.hid (And.intro hr7 (show Ext w w7 from Below.trans H6.out.2.1 (hx7.below H6.out.2.2 H6.out.2.1.size))); clear hr7 hx7
    go_wp2
    go_loopg [9] ys.length (fun k j wr => ∃ (i : Nat), Hid (i + k = ys.length) ∧ j = .int .i64 i ∧ Hid (RowAt wr g B (packP (bts sa) ys i) 0 ∧ Ext w wr))
    case atStart => exact ⟨0, Nat.zero_add _, rfl, H7.out.1, H7.out.2⟩
    case round =>
      obtain ⟨i, hi, rfl, hinv⟩ := hrel
      by_cases hlt : i < ys.length
      · obtain ⟨n, hin⟩ : ∃ n, ys[i]? = some n := ⟨ys[i]'(by have := H.out.2; omega), List.getElem?_eq_getElem (by have := H.out.2; omega)⟩
        obtain ⟨hr, ga, offa, rfl, hcell⟩ := H.out.1.at hin
        have hnum := pack_num (bts sa) ys (bts sb) B HB.out i n hin hr
        have hc1 := hinv.out.2.cell hcell
        have hgne : ga ≠ g := by have := lt_of_cell hcell; have := H6.out.2.2; simp at *; omega
        have hstep := packP_step (bts sa) ys i n hin
        have hbd : packP (bts sa) ys i ≤ B.size := by have := packP_le (bts sa) ys i; have := HF.out.2.2.1; omega
        have HN := Lib.hid (And.intro hnum (And.intro hstep (And.intro hcell (And.intro hgne hbd)))); clear hnum hstep hcell hgne hbd hin
        have b0 : (0 : Int) ≤ (i : Int) := by omega
        have b1 : (i : Int) < (ys.length : Nat) := by omega
        have hNum : ∀ W : World, RowAt W g B (packP (bts sa) ys i) 0 → Calls Tryd.prog 16 #[.pointer (some ⟨g, 0, none⟩), .int .i64 n, .int .i64 n] W fun e w' => e = .returned (.int .i64 n) ∧ RowAt w' g B (packP (bts sa) ys (i + 1)) 0 ∧ Only g W w' := fun W hW => by
          have h0 := Num_at W g B (packP (bts sa) ys i) n n (by omega) HN.out.2.2.2.2 hW
          rw [HN.out.1] at h0
          dsimp only at h0
          rw [HN.out.2.1] at h0
          exact h0
        have HNum := Lib.hid hNum; clear hNum
        go_wp2_with fail
        go_region_held3 (fun w' => w'.cell? ⟨ga, offa + i, none⟩ = some (.int .i64 n)) (first | exact gS | go_keep) ((go_at_call 16; refine (HNum.out _ hinv.out.1.drew).mono ?_; rintro e w8 ⟨rfl, hr8, hx8⟩; have gS : w8.cell? ⟨ga, offa + i, none⟩ = some (.int .i64 n) := hx8.cell HN.out.2.2.2.1 hc1))
        all_goals
          have H8 := Lib.hid (And.intro hr8 (show Ext w w8 from Below.trans hinv.out.2.drew (hx8.below H6.out.2.2 hinv.out.2.size))); clear hr8 hx8 gS
          go_wp2
          go_roundg (gk - 1)
          case measure => have := hi.out; omega
          case rel =>
            refine ⟨i + 1, ?_, by go_num, H8.out.1, H8.out.2⟩
            show i + 1 + (gk - 1) = ys.length
            have := hi.out; omega
      · have hil : i = ys.length := by have := hi.out; omega
        have H8 := Lib.hid (And.intro (show RowAt wr g B (packP (bts sa) ys ys.length) 0 by have := hinv.out.1; rw [hil] at this; exact this) hinv.out.2)
        have HI := Lib.hid hil; clear hil
        have hpl : packP (bts sa) ys ys.length < B.size := by have := HF.out.2.2.1; have := HF.out.2.2.2; omega
        generalize hPP : packP (bts sa) ys ys.length = PP at H8 HF hpl
        have HPP := Lib.hid hPP; clear hPP
        go_wp2_with fail
        refine (End_left wr g B PP hpl H8.out.1).mono ?_
        rintro e w9 ⟨rfl, hx9⟩
        have H9 := Lib.hid (And.intro (H8.out.1.ext hx9) (H8.out.2.trans hx9)); clear hx9
        go_wp2_with fail
        refine (Is_placed 10 PP 10 w9 (by decide) (by decide) (by decide) (by omega) (by omega)).mono ?_
        rintro e w10 ⟨rfl, hx10⟩
        rw [show ((10 : Int) == 10) = true from rfl]
        have H10 := Lib.hid (And.intro (H9.out.1.ext hx10) (H9.out.2.trans hx10)); clear hx10
        go_wp2_with fail
        refine (Text_at w10 g B PP sb.size (by omega) (by omega) H10.out.1).mono ?_
        rintro e w11 ⟨rfl, hr11, hx11⟩
        rw [HF.out.2.1] at hr11 ⊢
        have H11 := Lib.hid (And.intro hr11 (show Ext w w11 from Below.trans H10.out.2 (hx11.below H6.out.2.2 H10.out.2.size))); clear hr11 hx11
        go_wp2_with fail
        refine (End_done w11 g B B.size rfl H11.out.1).mono ?_
        rintro e w12 ⟨rfl, hx12⟩
        have H12 := Lib.hid (And.intro (H11.out.1.ext hx12) (H11.out.2.trans hx12)); clear hx12
        go_wp2_with fail
        refine (Code_nil w12).mono ?_
        rintro e w13 ⟨rfl, hx13⟩
        have H13 := Lib.hid (And.intro (H12.out.1.ext hx13) (H12.out.2.trans hx13)); clear hx13
        go_wp2_with fail
        refine (Err_ok w13 g B B.size H13.out.1).mono ?_
        rintro e w14 ⟨rfl, hx14⟩
        have H14 := Lib.hid (H13.out.2.trans hx14); clear hx14
        go_wp2_with fail
        refine (Code_nil w14).mono ?_
        rintro e w15 ⟨rfl, hx15⟩
        have H15 := Lib.hid (H14.out.trans hx15); clear hx15
        go_wp2
        go_ret
        exact ⟨rfl, H15.out⟩
end Go.Proofs.YtcfboalepnbifaaDoor
