/- The law RunesClean, walked. -/
import Derived.Test.YtghbonkbifnidaaDoorRunesTell
namespace Go.Proofs.YtghbonkbifnidaaDoor
open Go Go.RowKit

set_option maxHeartbeats 4000000 in
set_option maxRecDepth 100000 in
theorem runesClean_true (s : ByteArray) (w : World) (hF : Firsts w) :
    Calls Tryd.prog 7 #[.string s] w fun e w' => e = .returned (.bool true) ∧ Ext w w' := by
  have hs60 := shortOf_le s 60
  have H := Lib.hid hF; clear hF
  go_enter Tryd.func7, Tryd.ntmps7
  go_wp2_with fail
  refine (awake_true _ H.out).mono ?_
  rintro e w1 ⟨rfl, hx1⟩
  have H1 := Lib.hid hx1; clear hx1
  go_wp2_with fail
  refine (short_of s 60 _ (by decide)).mono ?_
  rintro e w2 ⟨rfl, rfl⟩
  have hdl := decL_short s 60
  generalize shortOf s 60 = x at hs60 hdl ⊢
  go_wp2_with fail
  refine (Decode_any x _ (H.out.ext H1.out) (by omega)).mono ?_
  rintro e w3 ⟨v3, rfl, ho3, hx3⟩
  obtain ⟨D, hD⟩ : ∃ D, decL (bts x) = D := ⟨_, rfl⟩
  have hi32 := decL_i32 (bts x)
  have hag := decL_again (bts x)
  have hcl : (65533 : Int) ∉ D → encS D = x := fun h => by
    apply ba_ext
    rw [bts_encS, ← hD]
    exact decL_clean (bts x) (by rw [hD]; exact h)
  rw [hD] at ho3 hdl hi32 hag
  have HD := Lib.hid (And.intro hi32 (And.intro hag (And.intro hcl hdl))); clear hi32 hag hcl hdl hD
  have H3 := Lib.hid (And.intro (ho3.isRunes HD.out.1) (H1.out.trans hx3)); clear ho3 hx3
  go_wp2_with fail
  refine (Encode_runes _ v3 _ H3.out.1).mono ?_
  rintro e w4 ⟨rfl, rfl⟩
  obtain ⟨T, hT⟩ : ∃ T, encS D = T := ⟨_, rfl⟩
  have hTs : T.size ≤ 240 := by have := encS_size D; have := HD.out.2.2.2; rw [← hT]; omega
  have hTd : decL (bts T) = D := by rw [← hT, bts_encS]; exact HD.out.2.1
  have hTx : (65533 : Int) ∉ D → T = x := fun h => by rw [← hT]; exact HD.out.2.2.1 h
  rw [hT]
  have HT := Lib.hid (And.intro hT (And.intro hTd hTx)); clear hT hTd hTx
  go_wp2_with fail
  refine (Decode_any T _ (H.out.ext H3.out.2) (by omega)).mono ?_
  rintro e w5 ⟨v5, rfl, ho5, hx5⟩
  rw [HT.out.2.1] at ho5
  have H5 := Lib.hid (And.intro (ho5.isRunes HD.out.1) (And.intro (H3.out.1.ext hx5) (H3.out.2.trans hx5))); clear ho5 hx5
  go_wp2_with fail
  refine (Same_eq _ v5 v3 _ H5.out.1 H5.out.2.1 (by have := HD.out.2.2.2; omega)).mono ?_
  rintro e w6 ⟨rfl, hx6⟩
  have h6 := H5.out.2.1.ext hx6
  have HX := Lib.hid (H5.out.2.2.trans hx6)
  obtain ⟨A, c, rfl, hc, _⟩ := h6.form
  obtain ⟨L, hL⟩ : ∃ L, L = D.length := ⟨_, rfl⟩
  have hL60 : L ≤ 60 := by rw [hL]; exact HD.out.2.2.2
  rw [← hL] at h6 hc ⊢
  have H6 := Lib.hid (And.intro h6 hL); clear h6 hL hx6 H5 H3
  go_wp2
  go_loopg [7, 8] L (fun k b j wr => ∃ (i : Nat) (m : Bool), Hid (i + k = L) ∧ j = .int .i64 i ∧ b = .bool m ∧ Hid (Ext w6 wr ∧ (m = true ↔ (65533 : Int) ∈ D.take i)))
  case atStart => exact ⟨0, false, Nat.zero_add _, rfl, rfl, Ext.refl _, by simp⟩
  case round =>
    obtain ⟨i, m, hi, rfl, rfl, hinv⟩ := hrel
    by_cases hlt : i < L
    · obtain ⟨n, hin⟩ : ∃ n, D[i]? = some n := ⟨D[i]'(by rw [← H6.out.2]; exact hlt), List.getElem?_eq_getElem _⟩
      obtain ⟨_, ga, offa, rfl, ca⟩ := H6.out.1.at hin
      have da := hinv.out.1.cell ca
      have hnext : (65533 : Int) ∈ D.take (i + 1) ↔ (m = true ∨ n = 65533) := by
        rw [List.take_add_one, hin, List.mem_append, ← hinv.out.2]
        simp [eq_comm]
      have HN := Lib.hid hnext; clear hnext ca hin
      cases m with
      | true =>
        go_wp2
        go_roundg (gk - 1)
        case measure => have := hi.out; omega
        case rel =>
          refine ⟨i + 1, true, ?_, by go_num, rfl, hinv.out.1, ?_⟩
          · show i + 1 + (gk - 1) = L
            have := hi.out; omega
          · rw [HN.out]; simp
      | false =>
        by_cases hn : n = 65533
        · subst hn
          go_wp2
          go_roundg (gk - 1)
          case measure => have := hi.out; omega
          case rel =>
            refine ⟨i + 1, true, ?_, by go_num, rfl, hinv.out.1, ?_⟩
            · show i + 1 + (gk - 1) = L
              have := hi.out; omega
            · rw [HN.out]; simp
        · have hnb : (n == 65533) = false := by simpa using hn
          have HNn := Lib.hid hn; clear hn
          go_wp2
          go_roundg (gk - 1)
          case measure => have := hi.out; omega
          case rel =>
            refine ⟨i + 1, false, ?_, by go_num, rfl, hinv.out.1, ?_⟩
            · show i + 1 + (gk - 1) = L
              have := hi.out; omega
            · rw [HN.out]; simp [HNn.out]
    · have hil : D.take i = D := List.take_of_length_le (by rw [← H6.out.2]; omega)
      have hmm := hinv.out.2
      rw [hil] at hmm
      have HM := Lib.hid (And.intro hmm (HX.out.trans hinv.out.1)); clear hmm hil hinv
      cases m with
      | true =>
        go_wp2_with fail
        refine (Decode_any T _ (H.out.ext HM.out.2) (by omega)).mono ?_
        rintro e w7 ⟨v7, rfl, ho7, hx7⟩
        rw [HT.out.2.1] at ho7
        have H7 := Lib.hid (And.intro (ho7.isRunes HD.out.1) (HM.out.2.trans hx7)); clear ho7 hx7
        go_wp2_with fail
        refine (Encode_runes _ v7 _ H7.out.1).mono ?_
        rintro e w8 ⟨rfl, rfl⟩
        rw [HT.out.1]
        go_wp2
        go_ret
        exact ⟨rfl, H7.out.2⟩
      | false =>
        obtain rfl : T = x := HT.out.2.2 fun h => by have := HM.out.1.2 h; cases this
        go_wp2_with fail
        refine (Decode_any T _ (H.out.ext HM.out.2) (by omega)).mono ?_
        rintro e w7 ⟨v7, rfl, ho7, hx7⟩
        rw [HT.out.2.1] at ho7
        have H7 := Lib.hid (And.intro (ho7.isRunes HD.out.1) (HM.out.2.trans hx7)); clear ho7 hx7
        go_wp2_with fail
        refine (Encode_runes _ v7 _ H7.out.1).mono ?_
        rintro e w8 ⟨rfl, rfl⟩
        rw [HT.out.1]
        go_wp2
        go_ret
        exact ⟨rfl, H7.out.2⟩
end Go.Proofs.YtghbonkbifnidaaDoor
