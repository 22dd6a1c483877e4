/- The document's rows: is a row right? -/
import Derived.Test.YtckdchkegbdiaaaDoorPairC
namespace Go.Proofs.YtckdchkegbdiaaaDoor
open Go Go.RowKit

set_option maxHeartbeats 8000000 in
set_option maxRecDepth 100000 in
theorem RefRight_of (l : List Cel) (v : Value) (w : World) (hv : IsCells w v l) (hm : l.length ≤ 1000000) : Calls Tryd.prog 39 #[v] w fun e w' => e = .returned (.bool (rightL l)) ∧ Ext w w' := by
  obtain ⟨A, c, rfl, hlc, hA⟩ := hv.form
  generalize hL : l.length = L at hlc hv hm ⊢
  have H := Lib.hid (And.intro hv hL); clear hv hL
  go_enter Tryd.func39, Tryd.ntmps39
  go_wp2
  go_loopg [3] L (fun k u wr => ∃ i : Nat, u = .int .i64 i ∧ Hid (i + k = L ∧ (∀ j c, j < i → l[j]? = some c → okP none l j c = true) ∧ Ext w wr))
  case atStart => exact ⟨0, rfl, Nat.zero_add _, fun j c hj => absurd hj (Nat.not_lt_zero j), Ext.refl w⟩
  case round =>
    obtain ⟨i, rfl, hin⟩ := hrel
    by_cases hi : i < L
    · obtain ⟨x, hx⟩ : ∃ x, l[i]? = some x := ⟨l[i]'(by rw [H.out.2]; exact hi), List.getElem?_eq_getElem _⟩
      obtain ⟨hxo, g, off, rfl, hcx⟩ := H.out.1.at hx
      obtain ⟨k0, k1, k2, k3⟩ := cel_all4 (hcx.ext hin.out.2.2)
      obtain ⟨K, hK⟩ : ∃ K, K = okP none l i x := ⟨_, rfl⟩
      have hB : K = (x.check && (!x.wide || pairL l i) && (!x.tl || aheadP none l i)) := hK
      have HQ : Hid (x.ok ∧ CelAt w g (off + i * 4) x ∧ l[i]? = some x ∧ okP none l i x = K) := Lib.hid ⟨hxo, hcx, hx, hK.symm⟩
      have HB := Lib.hid hB; clear hB hK hxo hcx hx
      have HX := Lib.hid hin.out.2.2
      go_wp2_with fail
      refine (RefCheck_of x _ HQ.out.1).mono ?_
      rintro e w2 ⟨rfl, hx⟩
      clear k0 k1 k2 k3
      obtain ⟨k0, k1, k2, k3⟩ := cel_all4 ((HQ.out.2.1.ext HX.out).ext hx)
      have hx9 := HX.out.trans hx
      clear HX hx
      have HX := Lib.hid hx9; clear hx9
      generalize hb : x.check = BC at HB ⊢
      clear hb
      cases BC with
      | false =>
        have hf : rightL l = false := by
          cases hr : rightL l
          · rfl
          · have := (right_iff _ l none (Nat.le_refl _) rfl).2 hr i x HQ.out.2.2.1
            rw [HQ.out.2.2.2] at this
            simp [HB.out] at this
        have HF := Lib.hid hf; clear hf
        go_wp2_with fail
        go_ret
        exact ⟨by rw [HF.out]; rfl, HX.out⟩
      | true =>
        go_wp2_with fail
        refine (RefWide_of x _ HQ.out.1).mono ?_
        rintro e w2 ⟨rfl, hx⟩
        clear k0 k1 k2 k3
        obtain ⟨k0, k1, k2, k3⟩ := cel_all4 ((HQ.out.2.1.ext HX.out).ext hx)
        have hx9 := HX.out.trans hx
        clear HX hx
        have HX := Lib.hid hx9; clear hx9
        generalize hb : x.wide = BU at HB ⊢
        clear hb
        cases BU with
        | false =>
          go_wp2_with fail
          refine (RefTl_of x _ HQ.out.1).mono ?_
          rintro e w2 ⟨rfl, hx⟩
          clear k0 k1 k2 k3
          obtain ⟨k0, k1, k2, k3⟩ := cel_all4 ((HQ.out.2.1.ext HX.out).ext hx)
          have hx9 := HX.out.trans hx
          clear HX hx
          have HX := Lib.hid hx9; clear hx9
          generalize hb : x.tl = BT at HB ⊢
          clear hb
          cases BT with
          | false =>
            have hok : okP none l i x = true := by rw [HQ.out.2.2.2]; simp [HB.out]
            have HOK := Lib.hid hok; clear hok
            have hgk := hin.out.1
            go_wp2_with fail
            go_roundg (gk - 1)
            case measure => omega
            case rel =>
              refine ⟨i + 1, by go_num, by show i + 1 + (gk - 1) = L; omega, fun j c hj hc => ?_, HX.out⟩
              rcases Nat.lt_or_ge j i with h | h
              · exact hin.out.2.1 j c h hc
              · obtain rfl : j = i := by omega
                rw [HQ.out.2.2.1] at hc
                injection hc with hc
                rw [← hc]; exact HOK.out
          | true =>
            have hq : ∀ W, Ext w W → Calls Tryd.prog 66 #[.slice (some ⟨g, off, none⟩) L c, .int .i64 ((i : Int) - 1)] W fun e w' => e = .returned (.bool (aheadP none l i)) ∧ Ext W w' := fun W hW => by
              cases i with
              | zero => exact pair_neg _ W
              | succ i =>
                have := pair_at l _ i W (H.out.1.ext hW) (by rw [H.out.2]; omega) (by rw [H.out.2]; omega)
                rw [show ((i + 1 : Nat) : Int) - 1 = (i : Int) by omega]
                exact this
            have HQQ := Lib.hid hq; clear hq
            generalize hb : aheadP none l i = BA at HB HQQ
            clear hb
            go_wp2_with fail
            refine (HQQ.out _ HX.out).mono ?_
            rintro e w2 ⟨rfl, hx⟩
            have hx9 := HX.out.trans hx
            clear HX hx
            have HX := Lib.hid hx9; clear hx9
            clear k0 k1 k2 k3
            cases BA with
            | false =>
              have hf : rightL l = false := by
                cases hr : rightL l
                · rfl
                · have := (right_iff _ l none (Nat.le_refl _) rfl).2 hr i x HQ.out.2.2.1
                  rw [HQ.out.2.2.2] at this
                  simp [HB.out] at this
              have HF := Lib.hid hf; clear hf
              go_wp2_with fail
              go_ret
              exact ⟨by rw [HF.out]; rfl, HX.out⟩
            | true =>
              have hok : okP none l i x = true := by rw [HQ.out.2.2.2]; simp [HB.out]
              have HOK := Lib.hid hok; clear hok
              have hgk := hin.out.1
              go_wp2_with fail
              go_roundg (gk - 1)
              case measure => omega
              case rel =>
                refine ⟨i + 1, by go_num, by show i + 1 + (gk - 1) = L; omega, fun j c hj hc => ?_, HX.out⟩
                rcases Nat.lt_or_ge j i with h | h
                · exact hin.out.2.1 j c h hc
                · obtain rfl : j = i := by omega
                  rw [HQ.out.2.2.1] at hc
                  injection hc with hc
                  rw [← hc]; exact HOK.out
        | true =>
          have hp : ∀ W, Ext w W → Calls Tryd.prog 66 #[.slice (some ⟨g, off, none⟩) L c, .int .i64 i] W fun e w' => e = .returned (.bool (pairL l i)) ∧ Ext W w' := fun W hW => pair_at l _ i W (H.out.1.ext hW) (by rw [H.out.2]; exact hi) (by rw [H.out.2]; exact hm)
          have HPP := Lib.hid hp; clear hp
          generalize hb : pairL l i = BP at HB HPP
          clear hb
          go_wp2_with fail
          refine (HPP.out _ HX.out).mono ?_
          rintro e w2 ⟨rfl, hx⟩
          clear k0 k1 k2 k3
          obtain ⟨k0, k1, k2, k3⟩ := cel_all4 ((HQ.out.2.1.ext HX.out).ext hx)
          have hx9 := HX.out.trans hx
          clear HX hx
          have HX := Lib.hid hx9; clear hx9
          cases BP with
          | false =>
            have hf : rightL l = false := by
              cases hr : rightL l
              · rfl
              · have := (right_iff _ l none (Nat.le_refl _) rfl).2 hr i x HQ.out.2.2.1
                rw [HQ.out.2.2.2] at this
                simp [HB.out] at this
            have HF := Lib.hid hf; clear hf
            go_wp2_with fail
            go_ret
            exact ⟨by rw [HF.out]; rfl, HX.out⟩
          | true =>
            go_wp2_with fail
            refine (RefTl_of x _ HQ.out.1).mono ?_
            rintro e w2 ⟨rfl, hx⟩
            clear k0 k1 k2 k3
            obtain ⟨k0, k1, k2, k3⟩ := cel_all4 ((HQ.out.2.1.ext HX.out).ext hx)
            have hx9 := HX.out.trans hx
            clear HX hx
            have HX := Lib.hid hx9; clear hx9
            generalize hb : x.tl = BT at HB ⊢
            clear hb
            cases BT with
            | false =>
              have hok : okP none l i x = true := by rw [HQ.out.2.2.2]; simp [HB.out]
              have HOK := Lib.hid hok; clear hok
              have hgk := hin.out.1
              go_wp2_with fail
              go_roundg (gk - 1)
              case measure => omega
              case rel =>
                refine ⟨i + 1, by go_num, by show i + 1 + (gk - 1) = L; omega, fun j c hj hc => ?_, HX.out⟩
                rcases Nat.lt_or_ge j i with h | h
                · exact hin.out.2.1 j c h hc
                · obtain rfl : j = i := by omega
                  rw [HQ.out.2.2.1] at hc
                  injection hc with hc
                  rw [← hc]; exact HOK.out
            | true =>
              have hq : ∀ W, Ext w W → Calls Tryd.prog 66 #[.slice (some ⟨g, off, none⟩) L c, .int .i64 ((i : Int) - 1)] W fun e w' => e = .returned (.bool (aheadP none l i)) ∧ Ext W w' := fun W hW => by
                cases i with
                | zero => exact pair_neg _ W
                | succ i =>
                  have := pair_at l _ i W (H.out.1.ext hW) (by rw [H.out.2]; omega) (by rw [H.out.2]; omega)
                  rw [show ((i + 1 : Nat) : Int) - 1 = (i : Int) by omega]
                  exact this
              have HQQ := Lib.hid hq; clear hq
              generalize hb : aheadP none l i = BA at HB HQQ
              clear hb
              go_wp2_with fail
              refine (HQQ.out _ HX.out).mono ?_
              rintro e w2 ⟨rfl, hx⟩
              have hx9 := HX.out.trans hx
              clear HX hx
              have HX := Lib.hid hx9; clear hx9
              clear k0 k1 k2 k3
              cases BA with
              | false =>
                have hf : rightL l = false := by
                  cases hr : rightL l
                  · rfl
                  · have := (right_iff _ l none (Nat.le_refl _) rfl).2 hr i x HQ.out.2.2.1
                    rw [HQ.out.2.2.2] at this
                    simp [HB.out] at this
                have HF := Lib.hid hf; clear hf
                go_wp2_with fail
                go_ret
                exact ⟨by rw [HF.out]; rfl, HX.out⟩
              | true =>
                have hok : okP none l i x = true := by rw [HQ.out.2.2.2]; simp [HB.out]
                have HOK := Lib.hid hok; clear hok
                have hgk := hin.out.1
                go_wp2_with fail
                go_roundg (gk - 1)
                case measure => omega
                case rel =>
                  refine ⟨i + 1, by go_num, by show i + 1 + (gk - 1) = L; omega, fun j c hj hc => ?_, HX.out⟩
                  rcases Nat.lt_or_ge j i with h | h
                  · exact hin.out.2.1 j c h hc
                  · obtain rfl : j = i := by omega
                    rw [HQ.out.2.2.1] at hc
                    injection hc with hc
                    rw [← hc]; exact HOK.out
    · have hf : rightL l = true := (right_iff _ l none (Nat.le_refl _) rfl).1 fun j c hc => hin.out.2.1 j c (by have := (List.getElem?_eq_some_iff.1 hc).1; rw [H.out.2] at this; omega) hc
      have HF := Lib.hid hf; clear hf
      go_wp2_with fail
      go_ret
      exact ⟨by rw [HF.out]; rfl, hin.out.2.2⟩
end Go.Proofs.YtckdchkegbdiaaaDoor
