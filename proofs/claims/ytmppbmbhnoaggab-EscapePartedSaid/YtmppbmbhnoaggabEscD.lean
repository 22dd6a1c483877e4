/- An escape goes on, or ends. -/
import Derived.Test.YtmppbmbhnoaggabEscC
namespace Go.Proofs.Ytmppbmbhnoaggab
open Go Go.RowKit

/-- The end of a step that tells nothing: the act's block is filled, handed back. -/
theorem told_end {w W w' w'' : World} {g : Nat} {s : Par} (hlt : g < w.heap.size) (h1 : Boxed w W) (h2 : Only g W w') (hp : ParAt w' g s) (h3 : Only w.heap.size w' w'') : ParAt w'' g s ∧ Only g w w'' :=
  ⟨hp.only h3 (by omega), only_fresh ((h1.only g).trans h2) h3 (Nat.le_refl _)⟩
theorem par_mid {w : World} {g : Nat} {s : Par} (h : ParAt w g s) (m : Int) : ParAt (w.setCell ⟨g, 2, none⟩ (.int .u8 m)) g { s with mid := m } := by
  have := Blk.set_ h 2 (.int .u8 m)
  unfold ParAt
  rwa [show parV { s with mid := m } = (parV s).setIfInBounds 2 (.int .u8 m) by simp [parV]]
theorem par_pr {w : World} {g : Nat} {s : Par} (h : ParAt w g s) (m : Int) : ParAt (w.setCell ⟨g, 1, none⟩ (.int .u8 m)) g { s with pr := m } := by
  have := Blk.set_ h 1 (.int .u8 m)
  unfold ParAt
  rwa [show parV { s with pr := m } = (parV s).setIfInBounds 1 (.int .u8 m) by simp [parV]]
theorem par_n {w : World} {g : Nat} {s : Par} (h : ParAt w g s) (m : Nat) : ParAt (w.setCell ⟨g, 3, none⟩ (.int .i64 m)) g { s with n := m } := by
  have := Blk.set_ h 3 (.int .i64 m)
  unfold ParAt
  rwa [show parV { s with n := m } = (parV s).setIfInBounds 3 (.int .i64 m) by simp [parV]]
/-- The same, where a cell of the parser has turned ahead. -/
structure BoxedS (w W : World) (g : Nat) (s : Par) : Prop where
  blk : Blk W w.heap.size 31 zero13
  only : Only g w W
  par : ParAt W g s
theorem boxedS {w : World} {g i : Nat} {v : Value} {s : Par} (h : ParAt (w.setCell ⟨g, i, none⟩ v) g s) : BoxedS w ((w.setCell ⟨g, i, none⟩ v).alloc (.cells zero13 31)) g s := by
  have hb := boxed (w.setCell ⟨g, i, none⟩ v)
  have h1 := hb.blk
  rw [show (w.setCell ⟨g, i, none⟩ v).heap.size = w.heap.size by simp [World.setCell]] at h1
  exact ⟨h1, ((Only.refl g w).setCell (i := i) v).ext hb.ext, hb.par h⟩
theorem told_endS {w W w'' : World} {g : Nat} {s : Par} (hlt : g < w.heap.size) (h1 : BoxedS w W g s) (h3 : Only w.heap.size W w'') : ParAt w'' g s ∧ Only g w w'' :=
  ⟨h1.par.only h3 (by omega), only_fresh h1.only h3 (Nat.le_refl _)⟩
set_option maxHeartbeats 2000000 in
set_option maxRecDepth 100000 in
theorem escape_of (w : World) (g : Nat) (s : Par) (r : Int) (h : ParAt w g s) (hl : s.ns.length = 8) (hm : 0 ≤ s.mid ∧ s.mid ≤ 255) (hr : 32 ≤ r) (hr2 : r ≤ 1114111) :
    Calls Try.prog 22 #[.pointer (some ⟨g, 0, none⟩), .int .i32 r] w fun e w' => e = .returned (toldV (escE s r).2) ∧ ParAt w' g (escE s r).1 ∧ Only g w w' := by
  obtain ⟨n0, n1, n2, n3, n4, n5, n6, n7, e⟩ := eight _ hl
  have c2 := (h.facts e).c2
  have z2 := h.frozen 2
  have hlt := h.lt
  have hR := fun W (k : ParAt W g s) => Reset_of W g s k hl
  have HB := Lib.hid (boxed w)
  have H := Lib.hid (And.intro h (And.intro hR (And.intro hlt (And.intro hl e))))
  have hbt := Lib.hid (between_of r)
  have hlv := Lib.hid (leaves_of r)
  clear h e hR hl
  obtain ⟨m, hm0⟩ : ∃ m, s.mid = m := ⟨_, rfl⟩
  unfold escE
  rw [hm0] at c2 hm ⊢
  have HM := Lib.hid hm0; clear hm0
  by_cases k1 : 32 ≤ r ∧ r ≤ 47
  · rw [if_pos k1]
    have hd : decide (32 ≤ r ∧ r ≤ 47) = true := decide_eq_true k1
    rw [hd] at hbt
    have hw : r % 256 = r := by omega
    by_cases hm0 : m = 0
    · subst hm0
      rw [if_neg (by decide)]
      go_enter Try.func22, Try.ntmps22
      go_wp2_with fail
      refine (hbt.out _).mono ?_
      rintro e w2 ⟨rfl, rfl⟩
      have HS := Lib.hid (boxedS (par_mid H.out.1 r))
      go_wp2_with (with_reducible refine wpList_stop ?_)
      unfold StopAt
      refine wpList_store_act rfl _ _ rfl w.heap.size .none rfl rfl rfl _ HS.out.blk rfl ?_
      intro w4 hb4 ho4
      have H4 := Lib.hid (And.intro hb4 ho4); clear hb4 ho4
      go_wp2
      exact ret_act rfl rfl rfl H4.out.1 rfl ⟨rfl, told_endS H.out.2.2.1 HS.out H4.out.2⟩
    · rw [if_pos hm0]
      go_enter Try.func22, Try.ntmps22
      go_wp2_with fail
      refine (hbt.out _).mono ?_
      rintro e w2 ⟨rfl, rfl⟩
      have HS := Lib.hid (boxedS (par_mid H.out.1 255))
      go_wp2_with (with_reducible refine wpList_stop ?_)
      unfold StopAt
      refine wpList_store_act rfl _ _ rfl w.heap.size .none rfl rfl rfl _ HS.out.blk rfl ?_
      intro w4 hb4 ho4
      have H4 := Lib.hid (And.intro hb4 ho4); clear hb4 ho4
      go_wp2
      exact ret_act rfl rfl rfl H4.out.1 rfl ⟨rfl, told_endS H.out.2.2.1 HS.out H4.out.2⟩
  · rw [if_neg k1]
    have hd : decide (32 ≤ r ∧ r ≤ 47) = false := decide_eq_false k1
    rw [hd] at hbt
    by_cases k2 : m = 0 ∧ r = 91
    · rw [if_pos k2]
      obtain ⟨rfl, rfl⟩ := k2
      go_enter Try.func22, Try.ntmps22
      go_wp2_with fail
      refine (hbt.out _).mono ?_
      rintro e w2 ⟨rfl, rfl⟩
      go_wp2_with (with_reducible refine wpList_stopP ?_)
      unfold StopAt
      refine wpList_store_par rfl _ _ rfl g s (.inn 2) H.out.2.2.2.1 rfl rfl rfl (HB.out.par H.out.1) ?_
      intro w3 hp3 ho3
      have H3 := Lib.hid (And.intro hp3 (And.intro ho3 (HB.out.after H.out.2.2.1 ho3))); clear hp3 ho3 c2 z2
      go_wp2_with (with_reducible refine wpList_stop ?_)
      unfold StopAt
      refine wpList_store_act rfl _ _ rfl w.heap.size .none rfl rfl rfl _ H3.out.2.2 rfl ?_
      intro w4 hb4 ho4
      have H4 := Lib.hid (And.intro hb4 ho4); clear hb4 ho4
      go_wp2
      exact ret_act rfl rfl rfl H4.out.1 rfl ⟨rfl, told_end H.out.2.2.1 HB.out H3.out.2.1 H3.out.1 H4.out.2⟩
    · rw [if_neg k2]
      have hk2 : ¬ m = 0 ∨ ¬ r = 91 := by omega
      by_cases k3 : m = 0 ∧ leavesE r = true
      · rw [if_pos k3]
        obtain ⟨rfl, k3⟩ := k3
        have hr91 : ¬ r = 91 := by omega
        rw [k3] at hlv
        go_enter Try.func22, Try.ntmps22
        go_wp2_with fail
        refine (hbt.out _).mono ?_
        rintro e w2 ⟨rfl, rfl⟩
        go_wp2_with fail
        refine (hlv.out _).mono ?_
        rintro e w2 ⟨rfl, rfl⟩
        go_wp2_with (with_reducible refine wpList_stopP ?_)
        unfold StopAt
        refine wpList_store_par rfl _ _ rfl g s (.inn 4) H.out.2.2.2.1 rfl rfl rfl (HB.out.par H.out.1) ?_
        intro w3 hp3 ho3
        have H3 := Lib.hid (And.intro hp3 (And.intro ho3 (HB.out.after H.out.2.2.1 ho3))); clear hp3 ho3 c2 z2
        go_wp2_with (with_reducible refine wpList_stop ?_)
        unfold StopAt
        refine wpList_store_act rfl _ _ rfl w.heap.size .none rfl rfl rfl _ H3.out.2.2 rfl ?_
        intro w4 hb4 ho4
        have H4 := Lib.hid (And.intro hb4 ho4); clear hb4 ho4
        go_wp2
        exact ret_act rfl rfl rfl H4.out.1 rfl ⟨rfl, told_end H.out.2.2.1 HB.out H3.out.2.1 H3.out.1 H4.out.2⟩
      · rw [if_neg k3]
        by_cases k4 : m = 0
        · have hr91 : ¬ r = 91 := by omega
          have hlf : leavesE r = false := by
            cases hL : leavesE r with
            | true => exact absurd ⟨k4, hL⟩ k3
            | false => rfl
          rw [hlf] at hlv
          have H4' := Lib.hid k3; clear k3 k2 hk2
          subst k4
          by_cases k5 : 126 < r
          · rw [if_pos (Or.inl k5)]
            go_enter Try.func22, Try.ntmps22
            go_wp2_with fail
            refine (hbt.out _).mono ?_
            rintro e w2 ⟨rfl, rfl⟩
            go_wp2_with fail
            refine (hlv.out _).mono ?_
            rintro e w2 ⟨rfl, rfl⟩
            go_wp2_with fail
            refine (H.out.2.1 _ (HB.out.par H.out.1)).mono ?_
            rintro e w3 ⟨rfl, hp3, ho3⟩
            have H3 := Lib.hid (And.intro hp3 (And.intro ho3 (HB.out.after H.out.2.2.1 ho3))); clear hp3 ho3 c2 z2
            go_wp2_with (with_reducible refine wpList_stop ?_)
            unfold StopAt
            refine wpList_store_act rfl _ _ rfl w.heap.size .none rfl rfl rfl _ H3.out.2.2 rfl ?_
            intro w4 hb4 ho4
            have H4 := Lib.hid (And.intro hb4 ho4); clear hb4 ho4
            go_wp2
            exact ret_act rfl rfl rfl H4.out.1 rfl ⟨rfl, told_end H.out.2.2.1 HB.out H3.out.2.1 H3.out.1 H4.out.2⟩
          · rw [if_neg (by omega)]
            go_enter Try.func22, Try.ntmps22
            go_wp2_with fail
            refine (hbt.out _).mono ?_
            rintro e w2 ⟨rfl, rfl⟩
            go_wp2_with fail
            refine (hlv.out _).mono ?_
            rintro e w2 ⟨rfl, rfl⟩
            go_wp2_with fail
            refine (H.out.2.1 _ (HB.out.par H.out.1)).mono ?_
            rintro e w3 ⟨rfl, hp3, ho3⟩
            have H3 := Lib.hid (And.intro hp3 (And.intro ho3 (HB.out.after H.out.2.2.1 ho3))); clear hp3 ho3 c2 z2
            go_wp2_with (with_reducible refine wpList_stop ?_)
            unfold StopAt
            refine wpList_store_act rfl _ _ rfl w.heap.size ⟨3, r, 0, 0, 0, z8⟩ rfl rfl rfl _ H3.out.2.2 rfl ?_
            intro w4 hb4 ho4
            have H4 := Lib.hid (And.intro hb4 ho4); clear hb4 ho4
            go_wp2
            exact ret_act rfl rfl rfl H4.out.1 rfl ⟨rfl, told_end H.out.2.2.1 HB.out H3.out.2.1 H3.out.1 H4.out.2⟩
        · have H4' := Lib.hid k3; clear k3 k2 hk2
          by_cases k5 : 126 < r
          · rw [if_pos (Or.inl k5)]
            go_enter Try.func22, Try.ntmps22
            go_wp2_with fail
            refine (hbt.out _).mono ?_
            rintro e w2 ⟨rfl, rfl⟩
            go_wp2_with fail
            refine (H.out.2.1 _ (HB.out.par H.out.1)).mono ?_
            rintro e w3 ⟨rfl, hp3, ho3⟩
            have H3 := Lib.hid (And.intro hp3 (And.intro ho3 (HB.out.after H.out.2.2.1 ho3))); clear hp3 ho3 c2 z2
            go_wp2_with (with_reducible refine wpList_stop ?_)
            unfold StopAt
            refine wpList_store_act rfl _ _ rfl w.heap.size .none rfl rfl rfl _ H3.out.2.2 rfl ?_
            intro w4 hb4 ho4
            have H4 := Lib.hid (And.intro hb4 ho4); clear hb4 ho4
            go_wp2
            exact ret_act rfl rfl rfl H4.out.1 rfl ⟨rfl, told_end H.out.2.2.1 HB.out H3.out.2.1 H3.out.1 H4.out.2⟩
          · by_cases k6 : m = 255
            · rw [if_pos (Or.inr k6)]
              subst k6
              go_enter Try.func22, Try.ntmps22
              go_wp2_with fail
              refine (hbt.out _).mono ?_
              rintro e w2 ⟨rfl, rfl⟩
              go_wp2_with fail
              refine (H.out.2.1 _ (HB.out.par H.out.1)).mono ?_
              rintro e w3 ⟨rfl, hp3, ho3⟩
              have H3 := Lib.hid (And.intro hp3 (And.intro ho3 (HB.out.after H.out.2.2.1 ho3))); clear hp3 ho3 c2 z2
              go_wp2_with (with_reducible refine wpList_stop ?_)
              unfold StopAt
              refine wpList_store_act rfl _ _ rfl w.heap.size .none rfl rfl rfl _ H3.out.2.2 rfl ?_
              intro w4 hb4 ho4
              have H4 := Lib.hid (And.intro hb4 ho4); clear hb4 ho4
              go_wp2
              exact ret_act rfl rfl rfl H4.out.1 rfl ⟨rfl, told_end H.out.2.2.1 HB.out H3.out.2.1 H3.out.1 H4.out.2⟩
            · rw [if_neg (by omega)]
              have hb255 : (m == 255) = false := by simpa using k6
              have hb0 : (m == 0) = false := by simpa using k4
              go_enter Try.func22, Try.ntmps22
              go_wp2_with fail
              refine (hbt.out _).mono ?_
              rintro e w2 ⟨rfl, rfl⟩
              go_wp2_with fail
              refine (H.out.2.1 _ (HB.out.par H.out.1)).mono ?_
              rintro e w3 ⟨rfl, hp3, ho3⟩
              have H3 := Lib.hid (And.intro hp3 (And.intro ho3 (HB.out.after H.out.2.2.1 ho3))); clear hp3 ho3 c2 z2
              go_wp2_with (with_reducible refine wpList_stop ?_)
              unfold StopAt
              refine wpList_store_act rfl _ _ rfl w.heap.size ⟨3, r, 0, m, 0, z8⟩ rfl rfl rfl _ H3.out.2.2 rfl ?_
              intro w4 hb4 ho4
              have H4 := Lib.hid (And.intro hb4 ho4); clear hb4 ho4
              go_wp2
              exact ret_act rfl rfl rfl H4.out.1 rfl ⟨rfl, told_end H.out.2.2.1 HB.out H3.out.2.1 H3.out.1 H4.out.2⟩
end Go.Proofs.Ytmppbmbhnoaggab
