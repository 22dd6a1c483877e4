/- The law RunesBack, walked. -/
import Derived.Test.YtghbonkbifnidaaDoorRunesTell
namespace Go.Proofs.YtghbonkbifnidaaDoor
open Go Go.RowKit

set_option maxHeartbeats 4000000 in
set_option maxRecDepth 100000 in
theorem runesBack_true (zs : List Int) (v : Value) (w : World) (hv : IsRunes w v zs) (hm : zs.length ≤ maxLen) (hF : Firsts w) :
    Calls Tryd.prog 6 #[v] w fun e w' => e = .returned (.bool true) ∧ Ext w w' := by
  have H := Lib.hid (And.intro hv (And.intro hm hF)); clear hv hm hF
  go_enter Tryd.func6, Tryd.ntmps6
  go_wp2_with fail
  refine (awake_true _ H.out.2.2).mono ?_
  rintro e w1 ⟨rfl, hx1⟩
  have H1 := Lib.hid hx1; clear hx1
  go_wp2_with fail
  refine (few_of zs v _ (H.out.1.ext H1.out) H.out.2.1).mono ?_
  rintro e w2 ⟨⟨v2, rfl, h2⟩, rfl⟩
  obtain ⟨ys, hys⟩ : ∃ ys, fewL zs 20 = ys := ⟨_, rfl⟩
  have hyl : ys.length ≤ 20 := by rw [← hys]; exact fewL_len zs 20
  rw [hys] at h2
  obtain ⟨L, hL⟩ : ∃ L, L = ys.length := ⟨_, rfl⟩
  have hL20 : L ≤ 20 := by omega
  have HL := Lib.hid (And.intro hL hys); clear hL hys hyl
  have H2 := Lib.hid h2; clear h2
  go_wp2_with fail
  refine (Encode_runes _ v2 _ H2.out).mono ?_
  rintro e w3 ⟨rfl, rfl⟩
  have hsz : (encS ys).size ≤ 1000000 := by have := encS_size ys; have := HL.out.1; omega
  go_wp2_with fail
  refine (Decode_any _ _ (H.out.2.2.ext H1.out) hsz).mono ?_
  rintro e w4 ⟨v4, rfl, ho4, hx4⟩
  rw [bts_encS, decL_encL] at ho4
  have hall : ∀ n, n ∈ ys.map fixR → isI32 n := by
    intro n hn
    obtain ⟨m, _, rfl⟩ := List.mem_map.1 hn
    exact isI32_rune (isRune_fix m)
  have h4 := ho4.isRunes hall
  have h2' := H2.out.ext hx4
  have HX := Lib.hid (H1.out.trans hx4)
  clear ho4 hall hx4 hsz
  obtain ⟨A, c, rfl, hc, _⟩ := h2'.form
  obtain ⟨B, d, rfl, hd, _⟩ := h4.form
  have hDl : (ys.map fixR).length = L := by rw [List.length_map, HL.out.1]
  rw [hDl] at h4 hd ⊢
  rw [← HL.out.1] at h2' hc H2 ⊢
  have HH := Lib.hid (And.intro h2' h4); clear h2' h4 hDl H2
  go_wp2
  go_loopg [6] L (fun k j wr => ∃ (i : Nat), Hid (i + k = L) ∧ j = .int .i64 i ∧ Hid (Ext w4 wr))
  case atStart => exact ⟨0, Nat.zero_add _, rfl, Ext.refl _⟩
  case round =>
    obtain ⟨i, hi, rfl, hinv⟩ := hrel
    by_cases hlt : i < L
    · obtain ⟨n, hin⟩ : ∃ n, ys[i]? = some n := ⟨ys[i]'(by rw [← HL.out.1]; exact hlt), List.getElem?_eq_getElem _⟩
      have him : (ys.map fixR)[i]? = some (fixR n) := by rw [List.getElem?_map, hin]; rfl
      obtain ⟨_, ga, offa, rfl, ca⟩ := HH.out.1.at hin
      obtain ⟨_, gb, offb, rfl, cb⟩ := HH.out.2.at him
      have da := hinv.out.cell ca
      have db := hinv.out.cell cb
      clear ca cb hin him
      have hcs : n < 0 ∧ fixR n = 65533 ∨ 1114111 < n ∧ fixR n = 65533 ∨ 55296 ≤ n ∧ n ≤ 57343 ∧ fixR n = 65533 ∨ 0 ≤ n ∧ n < 55296 ∧ fixR n = n ∨ 57343 < n ∧ n ≤ 1114111 ∧ fixR n = n := by
        unfold fixR
        by_cases hq : isRune n
        · rw [if_pos hq]; unfold isRune at hq; omega
        · rw [if_neg hq]; unfold isRune at hq; omega
      generalize fixR n = m at db hcs
      rcases hcs with ⟨h1, rfl⟩ | ⟨h1, rfl⟩ | ⟨h1, h2, rfl⟩ | ⟨h1, h2, rfl⟩ | ⟨h1, h2, rfl⟩
      all_goals
        go_wp2
        go_roundg (gk - 1)
        case measure => have := hi.out; omega
        case rel =>
          refine ⟨i + 1, ?_, by go_num, hinv.out⟩
          show i + 1 + (gk - 1) = L
          have := hi.out; omega
    · go_wp2
      go_ret
      exact ⟨rfl, HX.out.trans hinv.out⟩
end Go.Proofs.YtghbonkbifnidaaDoor
