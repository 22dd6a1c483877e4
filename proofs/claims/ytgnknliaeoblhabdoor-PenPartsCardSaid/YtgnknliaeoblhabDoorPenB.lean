/- What a number does to the ways of drawing: pen.drawn. -/
import Derived.Test.YtgnknliaeoblhabDoorPenA
namespace Go.Proofs.YtgnknliaeoblhabDoor
open Go Go.RowKit

theorem Ways.at {w : World} (h : Ways w) (i : Nat) (hi : i < 6) : w.cell? ⟨0, i * 3, none⟩ = some (.int .i64 (onW i)) ∧ w.cell? ⟨0, i * 3 + 1, none⟩ = some (.int .i64 (offW i)) ∧ w.cell? ⟨0, i * 3 + 2, none⟩ = some (.int .u8 (bitW i)) := by
  have hc : ∀ j v, waysCells[j]? = some v → w.cell? ⟨0, j, none⟩ = some v := fun j v hv => by
    have := h j v hv
    rwa [Nat.zero_add] at this
  rcases bitW_cases i hi with rfl | rfl | rfl | rfl | rfl | rfl <;> exact ⟨hc _ _ rfl, hc _ _ rfl, hc _ _ rfl⟩
set_option maxHeartbeats 2000000 in
set_option maxRecDepth 100000 in
theorem drawn_of (a n : Int) (w : World) (hW : Ways w) : Calls Tryd.prog 27 #[.int .u8 a, .int .i64 n] w fun e w' => e = .returned (.int .u8 (drawnP a n)) ∧ Ext w w' := by
  obtain ⟨R, hR⟩ : ∃ R, drawFrom 6 0 a n = R := ⟨_, rfl⟩
  rw [show drawnP a n = R from hR]
  have H := Lib.hid (And.intro hW hR); clear hW hR
  go_enter Tryd.func27, Tryd.ntmps27
  go_wp2
  go_loopg [0, 6] 6 (fun k u v wr => ∃ (m : Nat) (b : Int), u = .int .u8 b ∧ v = .int .i64 m ∧ Hid (m + k = 6 ∧ drawFrom k m b n = R ∧ Ext w wr))
  case atStart => exact ⟨0, a, rfl, rfl, rfl, H.out.2, Ext.refl w⟩
  case round =>
    obtain ⟨m, b, rfl, rfl, hin⟩ := hrel
    by_cases hm : m < 6
    · obtain ⟨k, rfl⟩ : ∃ k, gk = k + 1 := ⟨gk - 1, by have := hin.out.1; omega⟩
      obtain ⟨k0, k1, k2⟩ := (H.out.1.ext hin.out.2.2).at m hm
      have hw := hin.out.2.1
      simp only [drawFrom, wayP] at hw
      have HW := Lib.hid hw; clear hw
      have hmI : (m : Int) < 6 := by omega
      generalize onW m = x at k0 HW
      generalize offW m = y at k1 HW
      generalize bitW m = z at k2 HW
      by_cases h1 : n = x
      · rw [if_pos h1] at HW
        have e1 : (n == x) = true := by simp [h1]
        clear h1
        generalize hB : bits .or .u8 b z = B at HW
        go_wp2
        go_roundg k
        case measure => omega
        case rel => exact ⟨m + 1, B, by rw [← hB], by go_num, by have := hin.out.1; omega, HW.out, hin.out.2.2⟩
      · rw [if_neg h1] at HW
        have e1 : (n == x) = false := by simp [h1]
        clear h1
        by_cases h2 : n = y
        · rw [if_pos h2] at HW
          have e2 : (n == y) = true := by simp [h2]
          clear h2
          generalize hB : bits .andNot .u8 b z = B at HW
          go_wp2
          go_roundg k
          case measure => omega
          case rel => exact ⟨m + 1, B, by rw [← hB], by go_num, by have := hin.out.1; omega, HW.out, hin.out.2.2⟩
        · rw [if_neg h2] at HW
          have e2 : (n == y) = false := by simp [h2]
          clear h2
          go_wp2
          go_roundg k
          case measure => omega
          case rel => exact ⟨m + 1, b, rfl, by go_num, by have := hin.out.1; omega, HW.out, hin.out.2.2⟩
    · obtain rfl : m = 6 := by have := hin.out.1; omega
      obtain rfl : gk = 0 := by have := hin.out.1; omega
      have e1 : b = R := hin.out.2.1
      have E1 := Lib.hid e1; clear e1
      go_wp2
      go_ret
      exact ⟨by rw [← E1.out]; rfl, hin.out.2.2⟩
end Go.Proofs.YtgnknliaeoblhabDoor
