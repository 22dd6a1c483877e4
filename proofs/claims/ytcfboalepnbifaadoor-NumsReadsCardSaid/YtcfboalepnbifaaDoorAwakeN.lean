/- The chapter's example; a text cut short. -/
import Derived.Test.YtcfboalepnbifaaDoorPutAll
namespace Go.Proofs.YtcfboalepnbifaaDoor
open Go Go.RowKit

theorem putN_awake : putN [1, -1, 150] = [2, 1, 172, 2] := by
  have e1 : encN 2 = [2] := encN_small (by decide)
  have e2 : encN 1 = [1] := encN_small (by decide)
  have e3 : encN 300 = [172, 2] := by rw [encN_big (by decide), show 300 / 128 = 2 from by decide, e1]; rfl
  show encN 2 ++ (encN 1 ++ (encN 300 ++ [])) = _
  rw [e1, e2, e3]; rfl
set_option maxHeartbeats 1000000 in
set_option maxRecDepth 100000 in
theorem awakeN_true (w : World) : Calls Tryd.prog 7 #[] w fun e w' => e = .returned (.bool true) ∧ Ext w w' := by
  have hN := ints_new w [1, -1, 150] 3 (fun n hn => by
    have : n = 1 ∨ n = -1 ∨ n = 150 := by simpa using hn
    unfold isI64; omega)
  have H := Lib.hid (And.intro hN ((Ext.refl w).alloc (.cells (([1, -1, 150] : List Int).map (Value.int .i64)).toArray 3))); clear hN
  go_enter Tryd.func7, Tryd.ntmps7
  go_wp2_with fail
  refine (Put_ints [1, -1, 150] _ _ H.out.1 (by decide)).mono ?_
  rintro e w2 ⟨rfl, hx⟩
  rw [putN_awake]
  go_wp2
  go_ret
  exact ⟨rfl, H.out.2.trans hx⟩
set_option maxHeartbeats 1000000 in
set_option maxRecDepth 100000 in
theorem shortN_of (s : ByteArray) (n : Nat) (w : World) (hn : n < 1000000) : Calls Tryd.prog 8 #[.string s, .int .i64 n] w fun e w' => e = .returned (.string (shortOf s n)) ∧ w' = w := by
  by_cases h : n < s.size
  · have he : shortOf s n = s.extract 0 n := if_pos h
    rw [he]
    have HE := Lib.hid he; clear he
    go_enter Tryd.func8, Tryd.ntmps8
    go_wp2
    go_ret
    exact ⟨rfl, rfl⟩
  · have he : shortOf s n = s := if_neg h
    rw [he]
    have HE := Lib.hid he; clear he
    go_enter Tryd.func8, Tryd.ntmps8
    go_wp2
    go_ret
    exact ⟨rfl, rfl⟩
end Go.Proofs.YtcfboalepnbifaaDoor
