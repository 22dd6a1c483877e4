/- The document's encoding of a row; a text or a row cut short; are two rows the same? -/
import Derived.Test.YtghbonkbifnidaaDoorRunesEnc
import Derived.RegionTactic
import Derived.BigRegion
namespace Go.Proofs.YtghbonkbifnidaaDoor
open Go Go.RowKit

theorem encS_nil : encS [] = ⟨#[]⟩ := rfl
theorem encS_take (zs : List Int) (i : Nat) (n : Int) (h : zs[i]? = some n) : encS (zs.take i) ++ Utf8.encode n = encS (zs.take (i + 1)) := by
  apply ba_ext
  rw [bts_append, bts_encS, bts_encS, encL_take zs i n h]
  rfl
theorem encode_size (n : Int) : (Utf8.encode n).size ≤ 4 := by
  rw [← bts_len]; exact (encR_len n).1
set_option maxHeartbeats 2000000 in
set_option maxRecDepth 100000 in
theorem RefEncode_runes (zs : List Int) (v : Value) (w : World) (hv : IsRunes w v zs) (hn : zs.length ≤ 1000) :
    Calls Tryd.prog 16 #[v] w fun e w' => e = .returned (.string (encS zs)) ∧ Ext w w' := by
  obtain ⟨A, c, rfl, hc, hv⟩ := hv
  have H := Lib.hid hv; clear hv
  go_enter Tryd.func16, Tryd.ntmps16
  go_wp2
  go_loopg [3, 4] zs.length (fun k s j wr => ∃ (i : Nat), Hid (i + k = zs.length) ∧ j = .int .i64 i ∧ s = .string (encS (zs.take i)) ∧ Hid (Ext w wr))
  case atStart => exact ⟨0, Nat.zero_add _, rfl, rfl, Ext.refl w⟩
  case round =>
    obtain ⟨i, hi, rfl, rfl, hinv⟩ := hrel
    by_cases hlt : i < zs.length
    · obtain ⟨n, hin⟩ : ∃ n, zs[i]? = some n := ⟨zs[i], List.getElem?_eq_getElem hlt⟩
      obtain ⟨hr, gg, off, rfl, hcell⟩ := H.out i n hin
      have hcell' := hinv.out.cell hcell
      have hz1 : (encS (zs.take i)).size ≤ 4000 := by
        have := encS_size (zs.take i)
        rw [List.length_take] at this
        omega
      have hz2 := encode_size n
      have HN := Lib.hid (encS_take zs i n hin); clear hin hr hcell
      generalize encS (zs.take i) = S at hz1 HN ⊢
      have hone := RefOne_any n wr
      generalize Utf8.encode n = E at hz2 HN hone
      have HO := Lib.hid hone; clear hone
      go_wp2_with fail
      refine (HO.out).mono ?_
      rintro e w2 ⟨rfl, hx2⟩
      have HX := Lib.hid (Ext.trans hinv.out hx2); clear hx2
      go_wp2
      go_roundg (gk - 1)
      case measure => have := hi.out; omega
      case rel =>
        refine ⟨i + 1, ?_, by go_num, by rw [HN.out], HX.out⟩
        show i + 1 + (gk - 1) = zs.length
        have := hi.out; omega
    · have hil : i = zs.length := by have := hi.out; omega
      have HI := Lib.hid hil; clear hil
      go_wp2
      go_ret
      exact ⟨by rw [HI.out, List.take_length]; rfl, hinv.out⟩
set_option maxHeartbeats 1000000 in
set_option maxRecDepth 100000 in
theorem short_of (s : ByteArray) (n : Nat) (w : World) (hn : n < 1000000) : Calls Tryd.prog 10 #[.string s, .int .i64 n] w fun e w' => e = .returned (.string (shortOf s n)) ∧ w' = w := by
  by_cases h : n < s.size
  · have he : shortOf s n = s.extract 0 n := if_pos h
    rw [he]
    have HE := Lib.hid he; clear he
    go_enter Tryd.func10, Tryd.ntmps10
    go_wp2
    go_ret
    exact ⟨rfl, rfl⟩
  · have he : shortOf s n = s := if_neg h
    rw [he]
    have HE := Lib.hid he; clear he
    go_enter Tryd.func10, Tryd.ntmps10
    go_wp2
    go_ret
    exact ⟨rfl, rfl⟩
set_option maxHeartbeats 1000000 in
set_option maxRecDepth 100000 in
theorem few_of (zs : List Int) (v : Value) (w : World) (hv : IsRunes w v zs) (hm : zs.length ≤ maxLen) : Calls Tryd.prog 15 #[v] w fun e w' => (∃ v', e = .returned v' ∧ IsRunes w v' (fewL zs 20)) ∧ w' = w := by
  obtain ⟨A, c, rfl, hc, _⟩ := hv.form
  unfold maxLen at hm
  by_cases h : 20 < zs.length
  · obtain ⟨g, off, rfl⟩ := hv.addr (by omega)
    have hcut := hv.cut 20 (by omega)
    have he : fewL zs 20 = zs.take 20 := if_pos h
    rw [he]
    have H := Lib.hid (And.intro hcut he); clear hcut he hv
    go_enter Tryd.func15, Tryd.ntmps15
    go_wp2
    go_ret
    exact ⟨⟨_, rfl, H.out.1⟩, rfl⟩
  · have he : fewL zs 20 = zs := if_neg h
    rw [he]
    have H := Lib.hid (And.intro hv he); clear he hv
    go_enter Tryd.func15, Tryd.ntmps15
    go_wp2
    go_ret
    exact ⟨⟨_, rfl, H.out.1⟩, rfl⟩
set_option maxHeartbeats 2000000 in
set_option maxRecDepth 100000 in
theorem Same_runes (xs ys : List Int) (u v : Value) (w : World) (hu : IsRunes w u xs) (hv : IsRunes w v ys) (_hx : xs.length ≤ 1000000) (hy : ys.length ≤ 1000000) :
    Calls Tryd.prog 11 #[u, v] w fun e w' => e = .returned (.bool (decide (xs = ys))) ∧ Ext w w' := by
  obtain ⟨A, c, rfl, hc, _⟩ := hu.form
  obtain ⟨B, d, rfl, hd, _⟩ := hv.form
  by_cases hl : xs.length = ys.length
  · obtain ⟨L, hL⟩ : ∃ L, L = xs.length := ⟨_, rfl⟩
    have hL2 : ys.length = L := by omega
    rw [← hL] at hu hc _hx ⊢
    rw [hL2] at hv hd hy ⊢
    have H := Lib.hid (And.intro hu hv); clear hu hv
    have HL := Lib.hid (And.intro hL.symm hL2); clear hL hL2 hl
    go_enter Tryd.func11, Tryd.ntmps11
    go_wp2
    go_loopg [5] L (fun k j wr => ∃ (i : Nat), Hid (i + k = L ∧ xs.take i = ys.take i) ∧ j = .int .i64 i ∧ Hid (Ext w wr))
    case atStart => exact ⟨0, ⟨Nat.zero_add _, rfl⟩, rfl, Ext.refl w⟩
    case round =>
      obtain ⟨i, hi, rfl, hinv⟩ := hrel
      by_cases hlt : i < L
      · obtain ⟨n, hin⟩ : ∃ n, xs[i]? = some n := ⟨xs[i]'(by rw [HL.out.1]; exact hlt), List.getElem?_eq_getElem _⟩
        obtain ⟨m, him⟩ : ∃ m, ys[i]? = some m := ⟨ys[i]'(by rw [HL.out.2]; exact hlt), List.getElem?_eq_getElem _⟩
        obtain ⟨_, ga, offa, rfl, ca⟩ := H.out.1.at hin
        obtain ⟨_, gb, offb, rfl, cb⟩ := H.out.2.at him
        have da := hinv.out.cell ca
        have db := hinv.out.cell cb
        clear ca cb
        by_cases hnm : n = m
        · subst hnm
          have hnext : xs.take (i + 1) = ys.take (i + 1) := by rw [List.take_add_one, List.take_add_one, hi.out.2, hin, him]
          have HN := Lib.hid hnext; clear hnext hin him
          go_wp2
          go_region
          go_wp2
          go_roundg (gk - 1)
          case measure => have := hi.out.1; omega
          case rel =>
            refine ⟨i + 1, ⟨?_, HN.out⟩, by go_num, hinv.out.drew⟩
            have := hi.out.1; omega
        · have hne : xs ≠ ys := by
            intro e
            rw [e, him] at hin
            exact hnm (Option.some.inj hin).symm
          have HN := Lib.hid hne; clear hne hin him
          have hnm2 : (n == m) = false := by simpa using hnm
          go_wp2
          go_region
          go_wp2
          go_ret
          refine ⟨?_, hinv.out.drew⟩
          rw [decide_eq_false HN.out]
          rfl
      · have hil : i = L := by have := hi.out.1; omega
        have he : xs = ys := by
          have := hi.out.2
          rw [hil, List.take_of_length_le (by rw [HL.out.1]; omega), List.take_of_length_le (by rw [HL.out.2]; omega)] at this
          exact this
        have HE := Lib.hid he; clear he hil
        go_wp2
        go_ret
        refine ⟨?_, hinv.out⟩
        rw [decide_eq_true HE.out]
        rfl
  · have hne : xs ≠ ys := fun e => hl (by rw [e])
    rw [decide_eq_false hne]
    have HN := Lib.hid hne; clear hne hu hv
    generalize xs.length = a at hl hc _hx ⊢
    generalize ys.length = b at hl hd hy ⊢
    go_enter Tryd.func11, Tryd.ntmps11
    go_wp2
    go_ret
    exact ⟨rfl, Ext.refl w⟩
end Go.Proofs.YtghbonkbifnidaaDoor
