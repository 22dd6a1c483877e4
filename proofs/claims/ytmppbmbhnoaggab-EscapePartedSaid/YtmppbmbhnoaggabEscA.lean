/- A parser made new; is it at rest; what kinds of characters there are. -/
import Derived.Test.YtmppbmbhnoaggabEscKit
namespace Go.Proofs.Ytmppbmbhnoaggab
open Go Go.RowKit

set_option maxHeartbeats 1000000 in
set_option maxRecDepth 100000 in
theorem Reset_of (w : World) (g : Nat) (s : Par) (h : ParAt w g s) (hl : s.ns.length = 8) : Calls Try.prog 14 #[.pointer (some ⟨g, 0, none⟩)] w fun e w' => e = .returned (.tuple #[]) ∧ ParAt w' g .new ∧ Only g w w' := by
  obtain ⟨n0, n1, n2, n3, n4, n5, n6, n7, e⟩ := eight _ hl
  have H := Lib.hid (And.intro (inn_set hl h 0) (only_innSet (Only.refl g w) 0))
  obtain ⟨c0, c1, c2, c3, c4, c5, c6, c7, c8, c9, ca, cb⟩ := h.facts e
  have z0 := h.frozen 0
  have z1 := h.frozen 1
  have z2 := h.frozen 2
  have z3 := h.frozen 3
  have z4 := h.frozen 4
  have z5 := h.frozen 5
  have z6 := h.frozen 6
  have z7 := h.frozen 7
  have z8 := h.frozen 8
  have z9 := h.frozen 9
  have z10 := h.frozen 10
  have z11 := h.frozen 11
  clear h hl e
  go_enter Try.func14, Try.ntmps14
  go_wp2
  go_end0
  exact ⟨rfl, H.out⟩
set_option maxRecDepth 100000 in
theorem Idle_of (w : World) (g : Nat) (s : Par) (h : ParAt w g s) (hl : s.ns.length = 8) : Calls Try.prog 13 #[.pointer (some ⟨g, 0, none⟩)] w fun e w' => e = .returned (.bool (decide (s.st = 0))) ∧ w' = w := by
  obtain ⟨n0, n1, n2, n3, n4, n5, n6, n7, e⟩ := eight _ hl
  have c0 := (h.facts e).c0
  generalize s.st = t at *
  clear h hl e
  go_enter Try.func13, Try.ntmps13
  go_wp2
  go_ret
  exact ⟨rfl, rfl⟩
theorem between_of (r : Int) (w : World) : Calls Try.prog 25 #[.int .i32 r] w fun e w' => e = .returned (.bool (decide (32 ≤ r ∧ r ≤ 47))) ∧ w' = w := by
  by_cases h1 : 32 ≤ r
  · go_enter Try.func25, Try.ntmps25
    go_wp2
    go_ret
    exact ⟨by simp [h1], rfl⟩
  · go_enter Try.func25, Try.ntmps25
    go_wp2
    go_ret
    exact ⟨by simp; omega, rfl⟩
theorem ends_of (r : Int) (w : World) : Calls Try.prog 24 #[.int .i32 r] w fun e w' => e = .returned (.bool (decide (64 ≤ r ∧ r ≤ 126))) ∧ w' = w := by
  by_cases h1 : 64 ≤ r
  · go_enter Try.func24, Try.ntmps24
    go_wp2
    go_ret
    exact ⟨by simp [h1], rfl⟩
  · go_enter Try.func24, Try.ntmps24
    go_wp2
    go_ret
    exact ⟨by simp; omega, rfl⟩
set_option maxRecDepth 100000 in
theorem leaves_of (r : Int) (w : World) : Calls Try.prog 26 #[.int .i32 r] w fun e w' => e = .returned (.bool (leavesE r)) ∧ w' = w := by
  generalize hL : leavesE r = L
  have HL := Lib.hid hL; clear hL
  have h6 : r = 80 ∨ r = 88 ∨ r = 93 ∨ r = 94 ∨ r = 95 ∨ (r ≠ 80 ∧ r ≠ 88 ∧ r ≠ 93 ∧ r ≠ 94 ∧ r ≠ 95) := by omega
  rcases h6 with rfl | rfl | rfl | rfl | rfl | ⟨k1, k2, k3, k4, k5⟩
  all_goals
    go_enter Try.func26, Try.ntmps26
    go_wp2
    go_ret
    refine ⟨?_, rfl⟩
    rw [← HL.out]
  · rfl
  · rfl
  · rfl
  · rfl
  · rfl
  · unfold leavesE; simp [k1, k2, k3, k4, k5]
end Go.Proofs.Ytmppbmbhnoaggab
