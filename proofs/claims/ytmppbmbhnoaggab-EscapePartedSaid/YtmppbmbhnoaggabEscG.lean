/- A step of a parser. -/
import Derived.Test.YtmppbmbhnoaggabEscF
namespace Go.Proofs.Ytmppbmbhnoaggab
open Go Go.RowKit

set_option maxHeartbeats 4000000 in
set_option maxRecDepth 100000 in
theorem Step_of (w : World) (g : Nat) (s : Par) (r : Int) (h : ParAt w g s) (hok : s.ok) :
    Calls Try.prog 11 #[.pointer (some ⟨g, 0, none⟩), .int .i32 r] w fun e w' => e = .returned (toldV (stepE s r).2) ∧ ParAt w' g (stepE s r).1 ∧ Only g w w' := by
  have hlt := h.lt
  have hR := fun W (k : ParAt W g s) => Reset_of W g s k hok.len
  have hO := fun W (k : ParAt W g s) => obeyed_of W g s r k hok.len
  have hT := fun (k : 32 ≤ r ∧ r ≤ 126 ∨ 160 ≤ r ∧ r ≤ 1114111) W (q : ParAt W g s) => other_of W g s r q hok k
  have ha := (act_stepE hok r).1.len
  have HB := Lib.hid (boxed w)
  have H := Lib.hid (And.intro h (And.intro hlt (And.intro hok.len hR)))
  clear h hok hR
  unfold stepE at ha ⊢
  by_cases k1 : r = 27
  · rw [if_pos k1]
    subst k1
    have HO := Lib.hid (And.intro hO (And.intro hT ha)); clear hO hT ha
    go_enter Try.func11, Try.ntmps11
    go_wp2_with (with_reducible refine wpList_stopP ?_)
    unfold StopAt
    refine wpList_store_par rfl _ _ rfl g s (.inn 1) H.out.2.2.1 rfl rfl rfl (HB.out.par H.out.1) ?_
    intro w3 hp3 ho3
    have H3 := Lib.hid (And.intro hp3 (And.intro ho3 (HB.out.after H.out.2.1 ho3))); clear hp3 ho3
    go_wp2_with (with_reducible refine wpList_stop ?_)
    unfold StopAt
    refine wpList_store_act rfl _ _ rfl w.heap.size .none rfl rfl rfl _ H3.out.2.2 rfl ?_
    intro w4 hb4 ho4
    have H4 := Lib.hid (And.intro hb4 ho4); clear hb4 ho4
    go_wp2
    exact ret_act rfl rfl rfl H4.out.1 rfl ⟨rfl, told_end H.out.2.1 HB.out H3.out.2.1 H3.out.1 H4.out.2⟩
  rw [if_neg k1] at ha ⊢
  have e1 : (r == 27) = false := by simpa using k1
  by_cases k2 : r = 24 ∨ r = 26
  · rw [if_pos k2]
    have HO := Lib.hid (And.intro hO (And.intro hT ha)); clear hO hT ha
    rcases k2 with rfl | rfl
    all_goals
      go_enter Try.func11, Try.ntmps11
      go_wp2_with fail
      refine (H.out.2.2.2 _ (HB.out.par H.out.1)).mono ?_
      rintro e w3 ⟨rfl, hp3, ho3⟩
      have H3 := Lib.hid (And.intro hp3 (And.intro ho3 (HB.out.after H.out.2.1 ho3))); clear hp3 ho3
      go_wp2_with (with_reducible refine wpList_stop ?_)
      unfold StopAt
      refine wpList_store_act rfl _ _ rfl w.heap.size .none rfl rfl rfl _ H3.out.2.2 rfl ?_
      intro w4 hb4 ho4
      have H4 := Lib.hid (And.intro hb4 ho4); clear hb4 ho4
      go_wp2
      exact ret_act rfl rfl rfl H4.out.1 rfl ⟨rfl, told_end H.out.2.1 HB.out H3.out.2.1 H3.out.1 H4.out.2⟩
  rw [if_neg k2] at ha ⊢
  have e2 : (r == 24) = false := by simp; omega
  have e3 : (r == 26) = false := by simp; omega
  by_cases k3 : 0 ≤ r ∧ r ≤ 31
  · rw [if_pos k3] at ha ⊢
    generalize obeyedE s r = X at ha hO ⊢
    obtain ⟨s', A⟩ := X
    simp only at ha hO ⊢
    unfold toldV at hO ⊢
    generalize decide (A.kind ≠ 0) = B at hO ⊢
    have HC := Lib.hid (And.intro hO ha)
    obtain ⟨k3, k4⟩ := k3
    clear hO ha hT k2
    go_enter Try.func11, Try.ntmps11
    go_wp2_with fail
    refine (HC.out.1 _ (HB.out.par H.out.1)).mono ?_
    rintro e w3 ⟨rfl, hp3, ho3⟩
    have H3 := Lib.hid (And.intro hp3 (And.intro ho3 (HB.out.after H.out.2.1 ho3))); clear hp3 ho3
    go_wp2_with (with_reducible refine wpList_stop ?_)
    unfold StopAt
    refine wpList_store_act rfl _ _ rfl w.heap.size A HC.out.2 rfl rfl _ H3.out.2.2 rfl ?_
    intro w4 hb4 ho4
    have H4 := Lib.hid (And.intro hb4 ho4); clear hb4 ho4
    go_wp2
    exact ret_act rfl rfl rfl H4.out.1 (by rw [List.size_toArray, actC_len HC.out.2]) ⟨rfl, told_end H.out.2.1 HB.out H3.out.2.1 H3.out.1 H4.out.2⟩
  rw [if_neg k3] at ha ⊢
  by_cases k4 : 32 ≤ r ∧ r ≤ 126 ∨ 160 ≤ r ∧ r ≤ 1114111
  · rw [if_pos k4] at ha ⊢
    have hT := hT k4
    generalize otherE s r = X at ha hT ⊢
    obtain ⟨s', A⟩ := X
    simp only at ha hT ⊢
    unfold toldV at hT ⊢
    generalize decide (A.kind ≠ 0) = B at hT ⊢
    have HC := Lib.hid (And.intro hT ha)
    clear hO ha hT k2 k3
    rcases k4 with ⟨k4, k5⟩ | ⟨k4, k5⟩
    all_goals
      go_enter Try.func11, Try.ntmps11
      go_wp2_with fail
      refine (HC.out.1 _ (HB.out.par H.out.1)).mono ?_
      rintro e w3 ⟨rfl, hp3, ho3⟩
      have H3 := Lib.hid (And.intro hp3 (And.intro ho3 (HB.out.after H.out.2.1 ho3))); clear hp3 ho3
      go_wp2_with (with_reducible refine wpList_stop ?_)
      unfold StopAt
      refine wpList_store_act rfl _ _ rfl w.heap.size A HC.out.2 rfl rfl _ H3.out.2.2 rfl ?_
      intro w4 hb4 ho4
      have H4 := Lib.hid (And.intro hb4 ho4); clear hb4 ho4
      go_wp2
      exact ret_act rfl rfl rfl H4.out.1 (by rw [List.size_toArray, actC_len HC.out.2]) ⟨rfl, told_end H.out.2.1 HB.out H3.out.2.1 H3.out.1 H4.out.2⟩
  rw [if_neg k4]
  have hc : r < 0 ∨ 127 ≤ r ∧ r ≤ 159 ∨ 1114111 < r := by omega
  have HO := Lib.hid (And.intro hO (And.intro hT ha)); clear hO hT ha k2 k3 k4
  rcases hc with k5 | ⟨k5, k6⟩ | k5
  all_goals
    go_enter Try.func11, Try.ntmps11
    go_wp2_with (with_reducible refine wpList_stop ?_)
    unfold StopAt
    refine wpList_store_act rfl _ _ rfl w.heap.size .none rfl rfl rfl _ HB.out.blk rfl ?_
    intro w4 hb4 ho4
    have H4 := Lib.hid (And.intro hb4 ho4); clear hb4 ho4
    go_wp2
    exact ret_act rfl rfl rfl H4.out.1 rfl ⟨rfl, (HB.out.par H.out.1).only H4.out.2 (by omega), only_fresh (HB.out.only g) H4.out.2 (Nat.le_refl _)⟩
end Go.Proofs.Ytmppbmbhnoaggab
