/- How wide a character is: runes.Width; the document's lyceumref04.Width. -/
import Derived.Test.YtckdchkegbdiaaaDoorRunesLaid
import Derived.Test.YtckdchkegbdiaaaDoorRunesMath
import Derived.Test.YtckdchkegbdiaaaDoorProg
import Derived.WalkLawsBesides
import Derived.IntWalk
import Derived.KernelRfl
import Derived.Deep.LoopGhost
import Derived.Laws.BitsAll
import Derived.Laws.BitsAllLaws
namespace Go.Proofs.YtckdchkegbdiaaaDoor
open Go Go.RowKit

def spA (i : Nat) : Int := (spansTab.getD i []).getD 0 0
def spB (i : Nat) : Int := (spansTab.getD i []).getD 1 0
def spC (i : Nat) : Int := (spansTab.getD i []).getD 2 0
/-- The width that the rows from the i-th one on say. -/
def widthFrom : Nat → Nat → Int → Int
  | 0, _, _ => 1
  | n + 1, i, r => if r < spA i then 1 else if r ≤ spB i then spC i else widthFrom n (i + 1) r
def widthL (r : Int) : Int := widthFrom 18 0 r
noncomputable def spansArr : Array Value := spansCells.toArray
theorem infoSpans : (Tryd.prog.info? 99).map (·.size) = some spansCells.length := by kernel_rfl
theorem load_spans {w : World} (h : Spans w) : (Instr.loadAt 99 (.pointer (some ⟨0, 0, none⟩))).run Tryd.prog w = .ok (.agg spansArr) w :=
  run_loadAt_mid w _ 0 _ spansCells _ h Tryd.underlying99 rfl infoSpans
theorem index_spans (i : Nat) (hi : i < 18) (w : World) : (Instr.index 99 (.agg spansArr) (.int .i64 i)).run Tryd.prog w = .ok (.agg #[.int .i32 (spA i), .int .i32 (spB i), .int .i64 (spC i)]) w := by
  have h : i = 0 ∨ i = 1 ∨ i = 2 ∨ i = 3 ∨ i = 4 ∨ i = 5 ∨ i = 6 ∨ i = 7 ∨ i = 8 ∨ i = 9 ∨ i = 10 ∨ i = 11 ∨ i = 12 ∨ i = 13 ∨ i = 14 ∨ i = 15 ∨ i = 16 ∨ i = 17 := by omega
  rcases h with rfl | rfl | rfl | rfl | rfl | rfl | rfl | rfl | rfl | rfl | rfl | rfl | rfl | rfl | rfl | rfl | rfl | rfl <;> (show _ = _; kernel_rfl)
set_option maxHeartbeats 2000000 in
set_option maxRecDepth 100000 in
theorem Width_any (r : Int) (w : World) (hs : Spans w) : Calls Tryd.prog 35 #[.int .i32 r] w fun e w' => e = .returned (.int .i64 (widthL r)) ∧ Ext w w' := by
  go_enter Tryd.func35, Tryd.ntmps35
  go_wp2_with (refine wpList_load_mid rfl 99 (.global 0) rfl 0 0 rfl spansCells _ hs Tryd.underlying99 rfl infoSpans ?_; rw [show spansCells.toArray = spansArr from rfl])
  generalize hS : spansArr = S
  have HS := Lib.hid hS; clear hS hs
  go_loopg [6] 18 (fun k i wr => ∃ m : Nat, i = .int .i64 m ∧ Hid (m + k = 18 ∧ widthFrom k m r = widthL r ∧ Ext w wr))
  case atStart => exact ⟨0, rfl, rfl, rfl, Ext.refl w⟩
  case round =>
    obtain ⟨m, rfl, hinv⟩ := hrel
    by_cases hm : m < 18
    · have hix := fun W => HS.out ▸ index_spans m hm W
      obtain ⟨k, rfl⟩ : ∃ k, gk = k + 1 := ⟨gk - 1, by have := hinv.out.1; omega⟩
      have hw := hinv.out.2.1
      simp only [widthFrom] at hw
      have HW := Lib.hid hw; clear hw
      generalize spA m = a at hix HW
      generalize spB m = b at hix HW
      generalize spC m = c at hix HW
      by_cases h1 : r < a
      · have e1 : widthL r = 1 := by rw [← HW.out, if_pos h1]
        have E1 := Lib.hid e1; clear e1
        go_wp2
        go_ret
        exact ⟨by rw [E1.out]; rfl, hinv.out.2.2.alloc _⟩
      · by_cases h2 : r ≤ b
        · have e1 : widthL r = c := by rw [← HW.out, if_neg h1, if_pos h2]
          have E1 := Lib.hid e1; clear e1
          go_wp2
          go_ret
          exact ⟨by rw [E1.out]; rfl, hinv.out.2.2.alloc _⟩
        · have e1 : widthFrom k (m + 1) r = widthL r := by rw [← HW.out, if_neg h1, if_neg h2]
          have E1 := Lib.hid e1; clear e1
          go_wp2
          go_roundg k
          case measure => omega
          case rel => exact ⟨m + 1, by go_num, by have := hinv.out.1; omega, E1.out, hinv.out.2.2.alloc _⟩
    · obtain rfl : m = 18 := by have := hinv.out.1; omega
      obtain rfl : gk = 0 := by have := hinv.out.1; omega
      have e1 : widthL r = 1 := by rw [← hinv.out.2.1]; rfl
      have E1 := Lib.hid e1; clear e1
      go_wp2
      go_ret
      exact ⟨by rw [E1.out]; rfl, hinv.out.2.2⟩
end Go.Proofs.YtckdchkegbdiaaaDoor
