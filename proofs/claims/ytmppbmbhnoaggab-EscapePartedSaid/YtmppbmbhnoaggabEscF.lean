/- A control sequence whole; a step of a parser. -/
import Derived.Test.YtmppbmbhnoaggabEscE
namespace Go.Proofs.Ytmppbmbhnoaggab
open Go Go.RowKit

theorem parEqB_is (st pr mid : Int) (n : Nat) (n0 n1 n2 n3 n4 n5 n6 n7 : Int) : parEqB 2 st pr mid n n0 n1 n2 n3 n4 n5 n6 n7 = decide ((⟨st, pr, mid, n, [n0, n1, n2, n3, n4, n5, n6, n7]⟩ : Par) = .inn 2) := by
  unfold parEqB
  congr 1
  simp only [Par.mk.injEq, List.cons.injEq, and_true, eq_iff_iff]
  constructor
  · rintro ⟨h1, h2, h3, h4, h5⟩
    exact ⟨h1, h2, h3, by omega, h5⟩
  · rintro ⟨h1, h2, h3, h4, h5⟩
    exact ⟨h1, h2, h3, by omega, h5⟩
theorem control_of (w : World) (g : Nat) (s : Par) (r : Int) (h : ParAt w g s) (hok : s.ok) (hs : s.st = 2) (hr : 32 ≤ r) :
    Calls Try.prog 23 #[.pointer (some ⟨g, 0, none⟩), .int .i32 r] w fun e w' => e = .returned (toldV (ctlE s r).2) ∧ ParAt w' g (ctlE s r).1 ∧ Only g w w' := by
  obtain ⟨n0, n1, n2, n3, n4, n5, n6, n7, e⟩ := eight _ hok.len
  have hn9 := hok.n
  obtain ⟨st, pr, mid, n, ns⟩ := s
  simp only at e hn9 hs
  subst e hs
  unfold ctlE
  by_cases k1 : 64 ≤ r ∧ r ≤ 126
  · rw [if_pos k1]
    rcases Nat.lt_or_ge 8 n with h8 | h8
    · obtain rfl : n = 9 := by omega
      exact control_end8 w g 2 pr mid n0 n1 n2 n3 n4 n5 n6 n7 r h k1.1 k1.2
    · simp only [Nat.min_eq_left h8]
      exact control_end w g 2 pr mid n0 n1 n2 n3 n4 n5 n6 n7 r n h h8 k1.1 k1.2
  rw [if_neg k1]
  by_cases hm : mid = 0
  · subst hm
    by_cases k2 : 48 ≤ r ∧ r ≤ 57
    · rw [if_pos ⟨rfl, k2⟩]
      exact control_digit w g 2 pr n0 n1 n2 n3 n4 n5 n6 n7 r n h hok k2.1 k2.2
    rw [if_neg (fun c => k2 c.2)]
    by_cases k3 : r = 58 ∨ r = 59
    · rw [if_pos ⟨rfl, k3⟩]
      have hc : n = 0 ∨ n = 9 ∨ 1 ≤ n ∧ n ≤ 8 := by omega
      rcases hc with rfl | rfl | ⟨h1, h8⟩
      · rcases k3 with rfl | rfl
        · exact control_sep0_58 w g 2 pr n0 n1 n2 n3 n4 n5 n6 n7 h
        · exact control_sep0_59 w g 2 pr n0 n1 n2 n3 n4 n5 n6 n7 h
      · rcases k3 with rfl | rfl
        · exact control_sep9_58 w g 2 pr n0 n1 n2 n3 n4 n5 n6 n7 h
        · exact control_sep9_59 w g 2 pr n0 n1 n2 n3 n4 n5 n6 n7 h
      · simp only [show min (max n 1 + 1) 9 = n + 1 by omega]
        rcases k3 with rfl | rfl
        · exact control_sep_58 w g 2 pr n0 n1 n2 n3 n4 n5 n6 n7 n h h1 h8
        · exact control_sep_59 w g 2 pr n0 n1 n2 n3 n4 n5 n6 n7 n h h1 h8
    rw [if_neg (fun c => k3 c.2)]
    by_cases kE : (⟨2, pr, 0, n, [n0, n1, n2, n3, n4, n5, n6, n7]⟩ : Par) = .inn 2
    · simp only [Par.mk.injEq, List.cons.injEq, and_true, true_and] at kE
      obtain ⟨rfl, rfl, rfl, rfl, rfl, rfl, rfl, rfl, rfl, rfl⟩ := kE
      by_cases k4 : 60 ≤ r ∧ r ≤ 63
      · rw [if_pos ⟨rfl, k4⟩]
        exact control_priv w g r h k4.1 k4.2
      rw [if_neg (fun c => k4 c.2)]
      by_cases k5 : 32 ≤ r ∧ r ≤ 47
      · rw [if_pos ⟨rfl, k5⟩]
        exact control_mid2 w g r h k5.1 k5.2
      rw [if_neg (fun c => k5 c.2)]
      exact control_bad2 w g r h (by omega)
    · have he : parEqB 2 2 pr 0 n n0 n1 n2 n3 n4 n5 n6 n7 = false := by rw [parEqB_is]; exact decide_eq_false kE
      rw [if_neg (fun c => kE c.1)]
      by_cases k5 : 32 ≤ r ∧ r ≤ 47
      · rw [if_pos ⟨rfl, k5⟩]
        exact control_mid w g 2 pr n0 n1 n2 n3 n4 n5 n6 n7 r n h he k5.1 k5.2
      rw [if_neg (fun c => k5 c.2)]
      exact control_bad0 w g 2 pr n0 n1 n2 n3 n4 n5 n6 n7 r n h he (by omega) (by omega)
  · have kE : ¬ (⟨2, pr, mid, n, [n0, n1, n2, n3, n4, n5, n6, n7]⟩ : Par) = .inn 2 := fun e => hm (congrArg Par.mid e)
    have he : parEqB 2 2 pr mid n n0 n1 n2 n3 n4 n5 n6 n7 = false := by rw [parEqB_is]; exact decide_eq_false kE
    rw [if_neg (fun c => hm c.1), if_neg (fun c => hm c.1), if_neg (fun c => kE c.1), if_neg (fun c => hm c.1)]
    exact control_bad w g 2 pr mid n0 n1 n2 n3 n4 n5 n6 n7 r n h he (by simpa using hm) (by omega)
theorem step_other {s : Par} {r : Int} (hr : 32 ≤ r ∧ r ≤ 126 ∨ 160 ≤ r ∧ r ≤ 1114111) : stepE s r = otherE s r := by
  unfold stepE
  rw [if_neg (by omega), if_neg (by omega), if_neg (by omega), if_pos hr]
theorem act_other {s : Par} (hok : s.ok) {r : Int} (hr : 32 ≤ r ∧ r ≤ 126 ∨ 160 ≤ r ∧ r ≤ 1114111) : (otherE s r).2.ns.length = 8 := by
  rw [← step_other hr]; exact (act_stepE hok r).1.len
set_option maxHeartbeats 4000000 in
set_option maxRecDepth 100000 in
theorem other_of (w : World) (g : Nat) (s : Par) (r : Int) (h : ParAt w g s) (hok : s.ok) (hr : 32 ≤ r ∧ r ≤ 126 ∨ 160 ≤ r ∧ r ≤ 1114111) :
    Calls Try.prog 19 #[.pointer (some ⟨g, 0, none⟩), .int .i32 r] w fun e w' => e = .returned (toldV (otherE s r).2) ∧ ParAt w' g (otherE s r).1 ∧ Only g w w' := by
  obtain ⟨n0, n1, n2, n3, n4, n5, n6, n7, e⟩ := eight _ hok.len
  have c0 := (h.facts e).c0
  have hlt := h.lt
  have hr1 : 32 ≤ r := by omega
  have hr2 : r ≤ 1114111 := by omega
  have ha := act_other hok hr
  have hst := hok.st
  have hmid := hok.mid
  have HB := Lib.hid (boxed w)
  have H := Lib.hid (And.intro h (And.intro hlt (And.intro hok hok.len)))
  clear h e
  unfold otherE at ha ⊢
  by_cases k0 : s.st = 0
  · rw [if_pos k0]
    rw [k0] at c0
    have HK := Lib.hid k0; clear k0 ha hst hok
    go_enter Try.func19, Try.ntmps19
    go_wp2_with (with_reducible refine wpList_stop ?_)
    unfold StopAt
    refine wpList_store_act rfl _ _ rfl w.heap.size ⟨1, r, 0, 0, 0, z8⟩ rfl rfl rfl _ HB.out.blk rfl ?_
    intro w4 hb4 ho4
    have H4 := Lib.hid (And.intro hb4 ho4); clear hb4 ho4
    go_wp2
    exact ret_act rfl rfl rfl H4.out.1 rfl ⟨rfl, (HB.out.par H.out.1).only H4.out.2 (by omega), only_fresh (HB.out.only g) H4.out.2 (Nat.le_refl _)⟩
  rw [if_neg k0] at ha ⊢
  by_cases k1 : s.st = 1
  · rw [if_pos k1] at ha ⊢
    have hC := fun W (k : ParAt W g s) => escape_of W g s r k H.out.2.2.2 hmid hr1 hr2
    rw [k1] at c0
    generalize escE s r = X at ha hC ⊢
    obtain ⟨s', A⟩ := X
    simp only at ha hC ⊢
    unfold toldV at hC ⊢
    generalize decide (A.kind ≠ 0) = B at hC ⊢
    have HC := Lib.hid (And.intro hC ha)
    have HK := Lib.hid k1; clear k0 k1 ha hst hok hC
    go_enter Try.func19, Try.ntmps19
    go_wp2_with fail
    refine (HC.out.1 _ (HB.out.par H.out.1)).mono ?_
    rintro e w3 ⟨rfl, hp3, ho3⟩
    have H3 := Lib.hid (And.intro hp3 (And.intro ho3 (HB.out.after H.out.2.1 ho3))); clear hp3 ho3 c0
    go_wp2_with (with_reducible refine wpList_stop ?_)
    unfold StopAt
    refine wpList_store_act rfl _ _ rfl w.heap.size A HC.out.2 rfl rfl _ H3.out.2.2 rfl ?_
    intro w4 hb4 ho4
    have H4 := Lib.hid (And.intro hb4 ho4); clear hb4 ho4
    go_wp2
    exact ret_act rfl rfl rfl H4.out.1 (by rw [List.size_toArray, actC_len HC.out.2]) ⟨rfl, told_end H.out.2.1 HB.out H3.out.2.1 H3.out.1 H4.out.2⟩
  rw [if_neg k1] at ha ⊢
  by_cases k2 : s.st = 2
  · rw [if_pos k2] at ha ⊢
    have hC := fun W (k : ParAt W g s) => control_of W g s r k hok k2 hr1
    rw [k2] at c0
    generalize ctlE s r = X at ha hC ⊢
    obtain ⟨s', A⟩ := X
    simp only at ha hC ⊢
    unfold toldV at hC ⊢
    generalize decide (A.kind ≠ 0) = B at hC ⊢
    have HC := Lib.hid (And.intro hC ha)
    have HK := Lib.hid k2; clear k0 k1 k2 ha hst hok hC
    go_enter Try.func19, Try.ntmps19
    go_wp2_with fail
    refine (HC.out.1 _ (HB.out.par H.out.1)).mono ?_
    rintro e w3 ⟨rfl, hp3, ho3⟩
    have H3 := Lib.hid (And.intro hp3 (And.intro ho3 (HB.out.after H.out.2.1 ho3))); clear hp3 ho3 c0
    go_wp2_with (with_reducible refine wpList_stop ?_)
    unfold StopAt
    refine wpList_store_act rfl _ _ rfl w.heap.size A HC.out.2 rfl rfl _ H3.out.2.2 rfl ?_
    intro w4 hb4 ho4
    have H4 := Lib.hid (And.intro hb4 ho4); clear hb4 ho4
    go_wp2
    exact ret_act rfl rfl rfl H4.out.1 (by rw [List.size_toArray, actC_len HC.out.2]) ⟨rfl, told_end H.out.2.1 HB.out H3.out.2.1 H3.out.1 H4.out.2⟩
  rw [if_neg k2] at ha ⊢
  by_cases k3 : s.st = 3
  · rw [if_pos k3]
    rw [k3] at c0
    have hE := ends_of r
    by_cases k4 : 64 ≤ r ∧ r ≤ 126
    · rw [if_pos k4]
      have hd : decide (64 ≤ r ∧ r ≤ 126) = true := decide_eq_true k4
      rw [hd] at hE
      have hR := fun W (k : ParAt W g s) => Reset_of W g s k H.out.2.2.2
      have HE := Lib.hid (And.intro hE hR)
      have HK := Lib.hid k3; clear k0 k1 k2 k3 ha hst hok hE hR
      go_enter Try.func19, Try.ntmps19
      go_wp2_with fail
      refine (HE.out.1 _).mono ?_
      rintro e w2 ⟨rfl, rfl⟩
      go_wp2_with fail
      refine (HE.out.2 _ (HB.out.par H.out.1)).mono ?_
      rintro e w3 ⟨rfl, hp3, ho3⟩
      have H3 := Lib.hid (And.intro hp3 (And.intro ho3 (HB.out.after H.out.2.1 ho3))); clear hp3 ho3 c0
      go_wp2_with (with_reducible refine wpList_stop ?_)
      unfold StopAt
      refine wpList_store_act rfl _ _ rfl w.heap.size .none rfl rfl rfl _ H3.out.2.2 rfl ?_
      intro w4 hb4 ho4
      have H4 := Lib.hid (And.intro hb4 ho4); clear hb4 ho4
      go_wp2
      exact ret_act rfl rfl rfl H4.out.1 rfl ⟨rfl, told_end H.out.2.1 HB.out H3.out.2.1 H3.out.1 H4.out.2⟩
    · rw [if_neg k4]
      have hd : decide (64 ≤ r ∧ r ≤ 126) = false := decide_eq_false k4
      rw [hd] at hE
      have HE := Lib.hid hE
      have HK := Lib.hid k3; clear k0 k1 k2 k3 ha hst hok hE
      go_enter Try.func19, Try.ntmps19
      go_wp2_with fail
      refine (HE.out _).mono ?_
      rintro e w2 ⟨rfl, rfl⟩
      go_wp2_with (with_reducible refine wpList_stop ?_)
      unfold StopAt
      refine wpList_store_act rfl _ _ rfl w.heap.size .none rfl rfl rfl _ HB.out.blk rfl ?_
      intro w4 hb4 ho4
      have H4 := Lib.hid (And.intro hb4 ho4); clear hb4 ho4
      go_wp2
      exact ret_act rfl rfl rfl H4.out.1 rfl ⟨rfl, (HB.out.par H.out.1).only H4.out.2 (by omega), only_fresh (HB.out.only g) H4.out.2 (Nat.le_refl _)⟩
  rw [if_neg k3]
  have k4 : s.st = 4 := by omega
  rw [k4] at c0
  have HK := Lib.hid k4; clear k0 k1 k2 k3 k4 ha hst hok
  go_enter Try.func19, Try.ntmps19
  go_wp2_with (with_reducible refine wpList_stop ?_)
  unfold StopAt
  refine wpList_store_act rfl _ _ rfl w.heap.size .none rfl rfl rfl _ HB.out.blk rfl ?_
  intro w4 hb4 ho4
  have H4 := Lib.hid (And.intro hb4 ho4); clear hb4 ho4
  go_wp2
  exact ret_act rfl rfl rfl H4.out.1 rfl ⟨rfl, (HB.out.par H.out.1).only H4.out.2 (by omega), only_fresh (HB.out.only g) H4.out.2 (Nat.le_refl _)⟩
end Go.Proofs.Ytmppbmbhnoaggab
