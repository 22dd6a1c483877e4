/- runes.Decode; the chapter's example. -/
import Derived.Test.YtghbonkbifnidaaDoorDecFeed
namespace Go.Proofs.YtghbonkbifnidaaDoor
open Go Go.RowKit

theorem ext_only {w w0 w' : World} {g : Nat} (h : Ext w w0) (k : Only g w0 w') (hg : w.heap.size ≤ g) : Ext w w' := Below.trans h (k.below hg h.size)
theorem run_lenO (s : DecSt) (x : List UInt8) (h : s.ok) : (s.run x).1.length ≤ x.length + 3 := by
  have h1 := len_run x s
  have h2 := ok_k h
  omega
set_option maxHeartbeats 2000000 in
set_option maxRecDepth 100000 in
theorem Decode_any (s : ByteArray) (w : World) (hF : Firsts w) (hs : s.size ≤ 1000000) :
    Calls Tryd.prog 12 #[.string s] w fun e w' => ∃ v, e = .returned v ∧ OwnR w' w.heap.size v (decL (bts s)) ∧ Ext w w' := by
  have hd0 : Dec (w.alloc (.cells #[.int .i64 0, .int .i64 0, .int .u8 0, .int .u8 0, .int .i32 0] 36)) w.heap.size .new := Go.heap_alloc_new w _
  have hx0 : Ext w (w.alloc (.cells #[.int .i64 0, .int .i64 0, .int .u8 0, .int .u8 0, .int .i32 0] 36)) := (Ext.refl w).alloc _
  have hfeed := Feed_any _ w.heap.size .new s hd0 ok_new (hF.ext hx0) hs
  have hok2 : (DecSt.new.run (bts s)).2.ok := ok_run _ ok_new
  have hl : (DecSt.new.run (bts s)).1.length ≤ 1000003 := by have := run_lenO .new (bts s) ok_new; rw [bts_len] at this; omega
  obtain ⟨R, hR⟩ : ∃ R, DecSt.new.run (bts s) = R := ⟨_, rfl⟩
  have hdl : decL (bts s) = R.1 ++ R.2.flush := by unfold decL; rw [hR]
  rw [hR] at hfeed hok2 hl
  have hfl := len_flush R.2
  have H := Lib.hid (And.intro hfeed (And.intro hok2 (And.intro hx0 (And.intro hdl hfl.2)))); clear hfeed hok2 hx0 hdl hd0 hF hR hfl
  go_enter Tryd.func12, Tryd.ntmps12
  go_wp2_with fail
  refine H.out.1.mono ?_
  rintro e w1 ⟨v1, rfl, hown1, hd1, ho1⟩
  have H1 := Lib.hid (And.intro hown1 ho1)
  have hfl := Flush_any _ _ R.2 hd1 H.out.2.1
  clear hown1 hd1 ho1
  have HFL := Lib.hid hfl; clear hfl
  go_wp2_with fail
  refine HFL.out.mono ?_
  rintro e w2 ⟨v2, rfl, hown2, hd2, ho2⟩
  have hb : (w.alloc (.cells #[.int .i64 0, .int .i64 0, .int .u8 0, .int .u8 0, .int .i32 0] 36)).heap.size = w.heap.size + 1 := by simp
  have hO := H1.out.1.only ho2 (by rw [hb]; omega)
  rw [hb] at hO
  have HO := Lib.hid (And.intro hO (H1.out.2.trans ho2)); clear hO
  have HB := Lib.hid hb; clear hb
  go_wp2_with (at_builtin; refine wpList_app_runes rfl _ _ rfl (w.heap.size + 1) v1 R.1 rfl HO.out.1 _ v2 R.2.flush rfl hown2 (by omega) (by have := H.out.2.2.2.2; omega) (by have := HO.out.2.size; rw [HB.out] at this; exact this) ?_)
  intro v' w3 happ
  have ho3 := only_grown HO.out.2 HO.out.1 happ.grown (by rw [HB.out]; omega)
  have HE := Lib.hid (And.intro (happ.own.low (B' := w.heap.size) (by omega)) (ext_only H.out.2.2.1 ho3 (Nat.le_refl _)))
  clear happ ho3 hown2 hd2 ho2
  go_wp2
  go_ret
  exact ⟨_, rfl, by rw [H.out.2.2.2.1]; exact HE.out.1, HE.out.2⟩

theorem Same_eq (xs : List Int) (u v : Value) (w : World) (hu : IsRunes w u xs) (hv : IsRunes w v xs) (hx : xs.length ≤ 1000000) :
    Calls Tryd.prog 11 #[u, v] w fun e w' => e = .returned (.bool true) ∧ Ext w w' := by
  have h := Same_runes xs xs u v w hu hv hx hx
  rw [decide_eq_true (rfl : xs = xs)] at h
  exact h
theorem example_decL : decL [65, 226, 130, 65] = [65, 65533, 65] := by decide
theorem isRune_small {n : Int} (h : n = 65 ∨ n = 65533) : isI32 n := by unfold isI32; omega
set_option maxHeartbeats 1000000 in
set_option maxRecDepth 100000 in
theorem awake_true (w : World) (hF : Firsts w) : Calls Tryd.prog 9 #[] w fun e w' => e = .returned (.bool true) ∧ Ext w w' := by
  have hdec := Decode_any ⟨#[65, 226, 130, 65]⟩ w hF (by decide)
  rw [show decL (bts ⟨#[65, 226, 130, 65]⟩) = [65, 65533, 65] from example_decL] at hdec
  have H := Lib.hid hdec; clear hdec hF
  go_enter Tryd.func9, Tryd.ntmps9
  go_wp2_with fail
  refine H.out.mono ?_
  rintro e w1 ⟨v1, rfl, hown1, hx1⟩
  have hall : ∀ n, n ∈ [(65 : Int), 65533, 65] → isI32 n := by intro n hn; simp at hn; exact isRune_small (by omega)
  have h1 := (hown1.isRunes hall).ext ((Ext.refl w1).alloc (.cells #[.int .i32 65, .int .i32 65533, .int .i32 65] 21))
  have h2 : IsRunes (w1.alloc (.cells #[.int .i32 65, .int .i32 65533, .int .i32 65] 21)) (.slice (some ⟨w1.heap.size, 0, none⟩) 3 3) [65, 65533, 65] :=
    OwnR.isRunes (base := 0) ⟨rfl, .inr ⟨w1.heap.size, 3, #[.int .i32 65, .int .i32 65533, .int .i32 65], rfl, Nat.zero_le _, Go.heap_alloc_new _ _, Nat.le_refl _, by decide, rfl, rfl⟩⟩ hall
  have hsame := Same_eq _ v1 _ _ h1 h2 (by decide)
  have HX := Lib.hid (And.intro hsame (hx1.alloc (.cells #[.int .i32 65, .int .i32 65533, .int .i32 65] 21)))
  clear hown1 hx1 hall h1 h2 hsame
  go_wp2_with fail
  refine HX.out.1.mono ?_
  rintro e w2 ⟨rfl, hx2⟩
  have HE := Lib.hid (HX.out.2.trans hx2); clear hx2
  go_wp2
  go_ret
  exact ⟨rfl, HE.out⟩
end Go.Proofs.YtghbonkbifnidaaDoor
