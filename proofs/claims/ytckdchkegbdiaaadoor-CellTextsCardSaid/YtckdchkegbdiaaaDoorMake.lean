/- The cells of a character: cell.Make, and the document's. -/
import Derived.Test.YtckdchkegbdiaaaDoorWhole
import Derived.Deep.RegionWith
namespace Go.Proofs.YtckdchkegbdiaaaDoor
open Go Go.RowKit

theorem make_one {r : Int} (p : Cel) (h : widthL r = 1) : makeL r p = [⟨r, p.f, p.b, p.a % 64⟩] := by unfold makeL; rw [if_pos h]
theorem make_two {r : Int} (p : Cel) (h : widthL r = 2) : makeL r p = [⟨r, p.f, p.b, p.a % 64 + 64⟩, Cel.tail ⟨r, p.f, p.b, p.a % 64 + 64⟩] := by unfold makeL; rw [if_neg (by omega), if_pos h]
theorem make_none {r : Int} (p : Cel) (h : ¬ widthL r = 1) (h2 : ¬ widthL r = 2) : makeL r p = [] := by unfold makeL; rw [if_neg h, if_neg h2]
theorem make_tail (r f b a : Int) : Cel.tail ⟨r, f, b, a % 64 + 64⟩ = ⟨0, f, b, a % 64 + 128⟩ := by
  unfold Cel.tail
  simp only [Cel.mk.injEq, true_and]
  omega
theorem own_two (w : World) (x y : Cel) : OwnC (w.alloc (.cells #[.int .i32 x.r, .int .u8 x.f, .int .u8 x.b, .int .u8 x.a, .int .i32 y.r, .int .u8 y.f, .int .u8 y.b, .int .u8 y.a] 25)) w.heap.size (.slice (some ⟨w.heap.size, 0, none⟩) 2 2) [x, y] := OwnC.new w [x, y] (by unfold maxLen; simp)
theorem own_one_at (w : World) (x : Cel) (k : Nat) (hk : k = w.heap.size) : OwnC (w.alloc (.cells #[.int .i32 x.r, .int .u8 x.f, .int .u8 x.b, .int .u8 x.a] 25)) k (.slice (some ⟨k, 0, none⟩) 1 1) [x] := by subst hk; exact OwnC.new w [x] (by unfold maxLen; simp)
theorem own_one (w : World) (x : Cel) : OwnC (w.alloc (.cells #[.int .i32 x.r, .int .u8 x.f, .int .u8 x.b, .int .u8 x.a] 25)) w.heap.size (.slice (some ⟨w.heap.size, 0, none⟩) 1 1) [x] := OwnC.new w [x] (by unfold maxLen; simp)
set_option maxHeartbeats 4000000 in
set_option maxRecDepth 100000 in
theorem Make_of (r : Int) (p : Cel) (w : World) (hr : isI32 r) (hp : p.ok) (hS : Spans w) : Calls Tryd.prog 13 #[.int .i32 r, p.val] w fun e w' => ∃ v', e = .returned v' ∧ OwnC w' w.heap.size v' (makeL r p) ∧ Ext w w' := by
  obtain ⟨pr, f, b, a⟩ := p
  have h1 := hp.2.2.2
  unfold isU8 at h1
  simp only at h1
  have e0 := clear192 hp.2.2.2
  have e1 := or64 hp.2.2.2
  simp only at e0 e1
  have hok1 : Cel.ok ⟨r, f, b, a % 64⟩ := ⟨hr, hp.2.1, hp.2.2.1, by unfold isU8; simp only; omega⟩
  have hok2 : Cel.ok ⟨r, f, b, a % 64 + 64⟩ := ⟨hr, hp.2.1, hp.2.2.1, by unfold isU8; simp only; omega⟩
  have H := Lib.hid (And.intro hr (And.intro hp (And.intro hS (And.intro hok1 hok2)))); clear hr hp hS hok1 hok2
  obtain ⟨L, hL⟩ : ∃ L, L = makeL r ⟨pr, f, b, a⟩ := ⟨_, rfl⟩
  rw [← hL]
  have HL := Lib.hid hL; clear hL
  unfold Cel.val
  go_enter Tryd.func13, Tryd.ntmps13
  go_wp2_with fail
  refine (Width_any r _ (H.out.2.2.1.ext (((Ext.refl w).alloc _).alloc _))).mono ?_
  rintro e w1 ⟨rfl, hx⟩
  have hc1 : Blk w1 (w.heap.size + 1) 25 #[.int .i32 r, .int .u8 f, .int .u8 b, .int .u8 (a % 64)] := Blk.ext (w := (w.alloc (.cells #[.int .i32 pr, .int .u8 f, .int .u8 b, .int .u8 a] 25)).alloc (.cells #[.int .i32 r, .int .u8 f, .int .u8 b, .int .u8 (a % 64)] 25)) (heap_two _ _ _) hx
  have HX := Lib.hid (And.intro hc1 ((((Ext.refl w).alloc _).alloc _).trans hx)); clear hc1 hx
  have k0 : w1.cell? ⟨w.heap.size + 1, 0, none⟩ = some (.int .i32 r) := HX.out.1.cell 0
  have k1 : w1.cell? ⟨w.heap.size + 1, 1, none⟩ = some (.int .u8 f) := HX.out.1.cell 1
  have k2 : w1.cell? ⟨w.heap.size + 1, 2, none⟩ = some (.int .u8 b) := HX.out.1.cell 2
  have k3 : w1.cell? ⟨w.heap.size + 1, 3, none⟩ = some (.int .u8 (a % 64)) := HX.out.1.cell 3
  have kf : w1.frozen? ⟨w.heap.size + 1, 3, none⟩ = false := HX.out.1.frozen 3
  generalize hV : widthL r = V
  have HV := Lib.hid hV; clear hV
  by_cases v1 : V = 1
  · subst v1
    go_wp2_with fail
    go_ret
    refine ⟨_, rfl, ?_, HX.out.2.alloc _⟩
    rw [HL.out, make_one _ HV.out]
    exact (own_one w1 ⟨r, f, b, a % 64⟩).low HX.out.2.size
  · have g1 : (V == 1) = false := by simpa using v1
    by_cases v2 : V = 2
    · subst v2
      go_wp2_with fail
      have hb2 : Blk (w1.setCell ⟨w.heap.size + 1, 3, none⟩ (.int .u8 (a % 64 + 64))) (w.heap.size + 1) 25 #[.int .i32 r, .int .u8 f, .int .u8 b, .int .u8 (a % 64 + 64)] := HX.out.1.set_ 3 _
      have hx2 : Ext w (w1.setCell ⟨w.heap.size + 1, 3, none⟩ (.int .u8 (a % 64 + 64))) := HX.out.2.setCell (p := ⟨w.heap.size + 1, 3, none⟩) (Nat.le_succ _) _
      generalize (w1.setCell ⟨w.heap.size + 1, 3, none⟩ (.int .u8 (a % 64 + 64))) = w2 at hb2 hx2 ⊢
      clear k0 k1 k2 k3 kf
      have HB2 := Lib.hid (And.intro hb2 hx2); clear hb2 hx2
      have k0 : w2.cell? ⟨w.heap.size + 1, 0, none⟩ = some (.int .i32 r) := HB2.out.1.cell 0
      have k1 : w2.cell? ⟨w.heap.size + 1, 1, none⟩ = some (.int .u8 f) := HB2.out.1.cell 1
      have k2 : w2.cell? ⟨w.heap.size + 1, 2, none⟩ = some (.int .u8 b) := HB2.out.1.cell 2
      have k3 : w2.cell? ⟨w.heap.size + 1, 3, none⟩ = some (.int .u8 (a % 64 + 64)) := HB2.out.1.cell 3
      have FT : ∀ W, Calls Tryd.prog 36 #[.agg #[.int .i32 r, .int .u8 f, .int .u8 b, .int .u8 (a % 64 + 64)]] W fun e w' => e = .returned (.agg #[.int .i32 0, .int .u8 f, .int .u8 b, .int .u8 (a % 64 + 128)]) ∧ Ext W w' := fun W => by
        have := tail_of ⟨r, f, b, a % 64 + 64⟩ W H.out.2.2.2.2
        rw [make_tail] at this
        exact this
      have HFT := Lib.hid FT; clear FT
      go_region_with (go_at_call 36; refine (HFT.out _).mono ?_; rintro e w3 ⟨rfl, hx3⟩; have HX3 := Lib.hid (HB2.out.2.drew.trans hx3); have p0 := hx3.cell (w := w2.drew) k0; have p1 := hx3.cell (w := w2.drew) k1; have p2 := hx3.cell (w := w2.drew) k2; have p3 := hx3.cell (w := w2.drew) k3; clear hx3)
      all_goals
        go_wp2_with fail
        go_ret
        refine ⟨_, rfl, ?_, HX3.out.alloc _⟩
        rw [HL.out, make_two _ HV.out, make_tail]
        exact (own_two w3 ⟨r, f, b, a % 64 + 64⟩ ⟨0, f, b, a % 64 + 128⟩).low HX3.out.size
    · have g2 : (V == 2) = false := by simpa using v2
      go_wp2_with fail
      go_ret
      refine ⟨_, rfl, ?_, HX.out.2⟩
      rw [HL.out, make_none _ (by rw [HV.out]; exact v1) (by rw [HV.out]; exact v2)]
      exact OwnC.nil _ _
set_option maxHeartbeats 4000000 in
set_option maxRecDepth 100000 in
theorem RefMake_of (r : Int) (p : Cel) (w : World) (hr : isI32 r) (hp : p.ok) : Calls Tryd.prog 14 #[.int .i32 r, p.val] w fun e w' => ∃ v', e = .returned v' ∧ OwnC w' w.heap.size v' (makeL r p) ∧ Ext w w' := by
  obtain ⟨pr, f, b, a⟩ := p
  have h1 := hp.2.2.2
  unfold isU8 at h1
  simp only at h1
  have e0 : a.tmod 64 = a % 64 := Int.tmod_eq_emod_of_nonneg h1.1
  have e1 : (a % 64 + 64) % 256 = a % 64 + 64 := by omega
  have hok1 : Cel.ok ⟨r, f, b, a % 64⟩ := ⟨hr, hp.2.1, hp.2.2.1, by unfold isU8; simp only; omega⟩
  have hok2 : Cel.ok ⟨r, f, b, a % 64 + 64⟩ := ⟨hr, hp.2.1, hp.2.2.1, by unfold isU8; simp only; omega⟩
  have H := Lib.hid (And.intro hr (And.intro hp (And.intro trivial (And.intro hok1 hok2)))); clear hr hp hok1 hok2
  obtain ⟨L, hL⟩ : ∃ L, L = makeL r ⟨pr, f, b, a⟩ := ⟨_, rfl⟩
  rw [← hL]
  have HL := Lib.hid hL; clear hL
  unfold Cel.val
  go_enter Tryd.func14, Tryd.ntmps14
  go_wp2_with fail
  refine (RefWidth_is r _ H.out.1).mono ?_
  rintro e w0 ⟨rfl, rfl⟩
  generalize hV : widthL r = V
  have HV := Lib.hid hV; clear hV
  have hb1 : Blk ((w.alloc (.cells #[.int .i32 pr, .int .u8 f, .int .u8 b, .int .u8 a] 25)).alloc (.cells #[.int .i32 r, .int .u8 f, .int .u8 b, .int .u8 (a % 64)] 25)) (w.heap.size + 1) 25 #[.int .i32 r, .int .u8 f, .int .u8 b, .int .u8 (a % 64)] := heap_two _ _ _
  have hx1 : Ext w ((w.alloc (.cells #[.int .i32 pr, .int .u8 f, .int .u8 b, .int .u8 a] 25)).alloc (.cells #[.int .i32 r, .int .u8 f, .int .u8 b, .int .u8 (a % 64)] 25)) := ((Ext.refl w).alloc _).alloc _
  have HB1 := Lib.hid (And.intro hb1 hx1); clear hb1 hx1
  by_cases v1 : V = 1
  · subst v1
    go_wp2_with fail
    go_ret
    refine ⟨_, rfl, ?_, HB1.out.2.alloc _⟩
    rw [HL.out, make_one _ HV.out]
    exact (own_one_at _ ⟨r, f, b, a % 64⟩ _ (by simp)).low (by omega)
  · have g1 : (V == 1) = false := by simpa using v1
    by_cases v2 : V = 2
    · subst v2
      go_wp2_with fail
      have hb2 : Blk ((w.alloc (.cells #[.int .i32 pr, .int .u8 f, .int .u8 b, .int .u8 a] 25)).alloc (.cells #[.int .i32 r, .int .u8 f, .int .u8 b, .int .u8 (a % 64 + 64)] 25)) (w.heap.size + 1) 25 #[.int .i32 r, .int .u8 f, .int .u8 b, .int .u8 (a % 64 + 64)] := heap_two _ _ _
      have hx2 : Ext w ((w.alloc (.cells #[.int .i32 pr, .int .u8 f, .int .u8 b, .int .u8 a] 25)).alloc (.cells #[.int .i32 r, .int .u8 f, .int .u8 b, .int .u8 (a % 64 + 64)] 25)) := ((Ext.refl w).alloc _).alloc _
      generalize ((w.alloc (.cells #[.int .i32 pr, .int .u8 f, .int .u8 b, .int .u8 a] 25)).alloc (.cells #[.int .i32 r, .int .u8 f, .int .u8 b, .int .u8 (a % 64 + 64)] 25)) = w2 at hb2 hx2 ⊢
      have HB2 := Lib.hid (And.intro hb2 hx2); clear hb2 hx2
      have k0 : w2.cell? ⟨w.heap.size + 1, 0, none⟩ = some (.int .i32 r) := HB2.out.1.cell 0
      have k1 : w2.cell? ⟨w.heap.size + 1, 1, none⟩ = some (.int .u8 f) := HB2.out.1.cell 1
      have k2 : w2.cell? ⟨w.heap.size + 1, 2, none⟩ = some (.int .u8 b) := HB2.out.1.cell 2
      have k3 : w2.cell? ⟨w.heap.size + 1, 3, none⟩ = some (.int .u8 (a % 64 + 64)) := HB2.out.1.cell 3
      have FT : ∀ W, Calls Tryd.prog 37 #[.agg #[.int .i32 r, .int .u8 f, .int .u8 b, .int .u8 (a % 64 + 64)]] W fun e w' => e = .returned (.agg #[.int .i32 0, .int .u8 f, .int .u8 b, .int .u8 (a % 64 + 128)]) ∧ Ext W w' := fun W => by
        have := RefTail_of ⟨r, f, b, a % 64 + 64⟩ W H.out.2.2.2.2
        rw [make_tail] at this
        exact this
      have HFT := Lib.hid FT; clear FT
      go_region_with (go_at_call 37; refine (HFT.out _).mono ?_; rintro e w3 ⟨rfl, hx3⟩; have HX3 := Lib.hid (HB2.out.2.drew.trans hx3); have p0 := hx3.cell (w := w2.drew) k0; have p1 := hx3.cell (w := w2.drew) k1; have p2 := hx3.cell (w := w2.drew) k2; have p3 := hx3.cell (w := w2.drew) k3; clear hx3)
      all_goals
        go_wp2_with fail
        go_ret
        refine ⟨_, rfl, ?_, HX3.out.alloc _⟩
        rw [HL.out, make_two _ HV.out, make_tail]
        exact (own_two w3 ⟨r, f, b, a % 64 + 64⟩ ⟨0, f, b, a % 64 + 128⟩).low HX3.out.size
    · have g2 : (V == 2) = false := by simpa using v2
      go_wp2_with fail
      go_ret
      refine ⟨_, rfl, ?_, HB1.out.2⟩
      rw [HL.out, make_none _ (by rw [HV.out]; exact v1) (by rw [HV.out]; exact v2)]
      exact OwnC.nil _ _
set_option maxHeartbeats 4000000 in
set_option maxRecDepth 100000 in
theorem both_of (c : Cel) (w : World) (hc : c.ok) : Calls Tryd.prog 47 #[c.val] w fun e w' => ∃ v', e = .returned v' ∧ OwnC w' w.heap.size v' (if c.wide then [c, c.tail] else [c]) ∧ Ext w w' := by
  obtain ⟨r, f, b, a⟩ := c
  have hW := fun W => isWide_of ⟨r, f, b, a⟩ W hc
  have H := Lib.hid (And.intro hc hW); clear hc hW
  generalize hU : Cel.wide ⟨r, f, b, a⟩ = U at H ⊢
  clear hU
  have FT : ∀ W, Calls Tryd.prog 36 #[.agg #[.int .i32 r, .int .u8 f, .int .u8 b, .int .u8 a]] W fun e w' => e = .returned (.agg #[.int .i32 0, .int .u8 f, .int .u8 b, .int .u8 (a % 64 + 128)]) ∧ Ext W w' := fun W => tail_of ⟨r, f, b, a⟩ W H.out.1
  have HFT := Lib.hid FT; clear FT
  unfold Cel.val
  go_enter Tryd.func47, Tryd.ntmps47
  go_wp2_with fail
  refine (H.out.2 _).mono ?_
  rintro e w1 ⟨rfl, hx⟩
  obtain ⟨k0, k1, k2, k3⟩ := ((CelAt.new w ⟨r, f, b, a⟩).ext hx).four0
  have HX := Lib.hid (((Ext.refl w).alloc _).trans hx); clear hx
  cases U with
  | false =>
    go_wp2_with fail
    go_ret
    exact ⟨_, rfl, (own_one w1 ⟨r, f, b, a⟩).low HX.out.size, HX.out.alloc _⟩
  | true =>
    go_wp2_with fail
    go_region_with (go_at_call 36; refine (HFT.out _).mono ?_; rintro e w3 ⟨rfl, hx3⟩; have HX3 := Lib.hid (HX.out.drew.trans hx3); have p0 := hx3.cell (w := w1.drew) k0; have p1 := hx3.cell (w := w1.drew) k1; have p2 := hx3.cell (w := w1.drew) k2; have p3 := hx3.cell (w := w1.drew) k3; clear hx3)
    all_goals
      go_wp2_with fail
      go_ret
      exact ⟨_, rfl, (own_two w3 ⟨r, f, b, a⟩ ⟨0, f, b, a % 64 + 128⟩).low HX3.out.size, HX3.out.alloc _⟩
end Go.Proofs.YtckdchkegbdiaaaDoor
