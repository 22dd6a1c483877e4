/- Are two rows of cells the same? -/
import Derived.Test.YtckdchkegbdiaaaDoorRight
namespace Go.Proofs.YtckdchkegbdiaaaDoor
open Go Go.RowKit
attribute [local go_sem 10000] eq_cel

theorem take_step {α : Type} (l : List α) (i : Nat) (x : α) (h : l[i]? = some x) : l.take (i + 1) = l.take i ++ [x] := by rw [List.take_add_one, h]; rfl
set_option maxHeartbeats 4000000 in
set_option maxRecDepth 100000 in
theorem SameC_of (a b : List Cel) (va vb : Value) (w : World) (ha : IsCells w va a) (hb : IsCells w vb b) (hm : a.length ≤ maxLen) : Calls Tryd.prog 12 #[va, vb] w fun e w' => e = .returned (.bool (decide (a = b))) ∧ Ext w w' := by
  obtain ⟨A, c, rfl, hlc, hA⟩ := ha.form
  obtain ⟨B, d, rfl, hld, hB⟩ := hb.form
  generalize hL : a.length = L at hlc ha hm ⊢
  generalize hK : b.length = K at hld hb ⊢
  generalize hR : decide (a = b) = R
  have H := Lib.hid (And.intro ha (And.intro hb (And.intro hL (And.intro hK hR)))); clear ha hb hL hK hR
  have hm2 : L ≤ 9223372036854775807 := hm
  clear hm
  by_cases hne : L = K
  · subst hne
    go_enter Tryd.func12, Tryd.ntmps12
    go_wp2
    go_loopg [5] L (fun k u wr => ∃ i : Nat, u = .int .i64 i ∧ Hid (i + k = L ∧ a.take i = b.take i ∧ Ext w wr))
    case atStart => exact ⟨0, rfl, Nat.zero_add _, rfl, Ext.refl w⟩
    case round =>
      obtain ⟨i, rfl, hin⟩ := hrel
      by_cases hi : i < L
      · obtain ⟨x, hx⟩ : ∃ x, a[i]? = some x := ⟨a[i]'(by rw [H.out.2.2.1]; exact hi), List.getElem?_eq_getElem _⟩
        obtain ⟨y, hy⟩ : ∃ y, b[i]? = some y := ⟨b[i]'(by rw [H.out.2.2.2.1]; exact hi), List.getElem?_eq_getElem _⟩
        obtain ⟨_, g, off, rfl, hcx⟩ := H.out.1.at hx
        obtain ⟨_, g', off', rfl, hcy⟩ := H.out.2.1.at hy
        have hta := take_step a i x hx
        have htb := take_step b i y hy
        have hne2 : ¬ x = y → R = false := fun h => by
          rw [← H.out.2.2.2.2]
          refine decide_eq_false fun e => h ?_
          rw [e, hy] at hx; injection hx with hx; exact hx.symm
        have HT := Lib.hid (And.intro hta (And.intro htb hne2)); clear hta htb hne2 hx hy
        obtain ⟨r, f, b', a'⟩ := x
        obtain ⟨r2, f2, b2, a2⟩ := y
        obtain ⟨k0, k1, k2, k3⟩ := (hcx.ext hin.out.2.2).four
        obtain ⟨m0, m1, m2, m3⟩ := (hcy.ext hin.out.2.2).four
        clear hcx hcy
        go_wp2_with fail
        go_quiet (fail)
        clear k0 k1 k2 k3 m0 m1 m2 m3
        generalize hE : celEq _ _ = E
        have HE := Lib.hid hE; clear hE
        cases E with
        | false =>
          have h0 := HT.out.2.2 (celEq_false.1 HE.out)
          subst h0
          go_wp2_with fail
          go_ret
          exact ⟨rfl, hin.out.2.2.drewN _⟩
        | true =>
          have hxy := celEq_true.1 HE.out
          have hts : a.take (i + 1) = b.take (i + 1) := by rw [HT.out.1, HT.out.2.1, hin.out.2.1, hxy]
          have HS := Lib.hid (And.intro hts (hin.out.2.2.drewN nq)); clear hxy hts
          have hgk := hin.out.1
          have HG := Lib.hid hgk; clear hgk
          go_wp2_with fail
          go_roundg (gk - 1)
          case measure => have := HG.out; omega
          case rel => exact ⟨i + 1, by go_num, by have := HG.out; show i + 1 + (gk - 1) = L; omega, HS.out.1, HS.out.2⟩
      · have h1 : R = true := by
          rw [← H.out.2.2.2.2]
          refine decide_eq_true ?_
          have h2 := hin.out.2.1
          rw [List.take_of_length_le (by rw [H.out.2.2.1]; omega), List.take_of_length_le (by rw [H.out.2.2.2.1]; omega)] at h2
          exact h2
        subst h1
        go_wp2_with fail
        go_ret
        exact ⟨rfl, hin.out.2.2⟩
  · have hn2 : R = false := by
      rw [← H.out.2.2.2.2]
      refine decide_eq_false fun e => hne ?_
      rw [← H.out.2.2.1, ← H.out.2.2.2.1, e]
    subst hn2
    have e1 : ((L : Int) == (K : Int)) = false := by simp; omega
    go_enter Tryd.func12, Tryd.ntmps12
    go_wp2
    go_ret
    exact ⟨rfl, Ext.refl w⟩
end Go.Proofs.YtckdchkegbdiaaaDoor
