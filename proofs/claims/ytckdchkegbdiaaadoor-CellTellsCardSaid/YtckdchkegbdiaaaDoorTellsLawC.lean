/- The law CellTells, walked. -/
import Derived.Test.YtckdchkegbdiaaaDoorTellsC
import Derived.Test.YtckdchkegbdiaaaDoorRowC
import Derived.Test.YtckdchkegbdiaaaDoorMake
import Derived.Deep.RegionWith
import Derived.Deep.RegionHeld3
namespace Go.Proofs.YtckdchkegbdiaaaDoor
open Go Go.RowKit
attribute [local go_sem 10000] eq_cel

def setC (w : World) (g o : Nat) (c : Cel) : World := (((w.setCell ⟨g, o, none⟩ (.int .i32 c.r)).setCell ⟨g, o + 1, none⟩ (.int .u8 c.f)).setCell ⟨g, o + 2, none⟩ (.int .u8 c.b)).setCell ⟨g, o + 3, none⟩ (.int .u8 c.a)
theorem setC_size (w : World) (g o : Nat) (c : Cel) : (setC w g o c).heap.size = w.heap.size := by simp [setC, World.setCell]
theorem set_off {W : World} {g a b : Nat} {v : Value} (h : a ≠ b) : (W.setCell ⟨g, a, none⟩ v).cell? ⟨g, b, none⟩ = W.cell? ⟨g, b, none⟩ := World.cell?_setCell_other _ _ _ _ (fun e => h (by injection e))
theorem set_on {W : World} {g a : Nat} {u v : Value} (h : W.cell? ⟨g, a, none⟩ = some u) : (W.setCell ⟨g, a, none⟩ v).cell? ⟨g, a, none⟩ = some v := World.cell?_setCell_same _ _ _ h
theorem setC_same {w : World} {g o : Nat} {x : Cel} (h : CelAt w g o x) (c : Cel) : CelAt (setC w g o c) g o c := by
  obtain ⟨k0, k1, k2, k3⟩ := cel_all4 h
  have h0 : (setC w g o c).cell? ⟨g, o, none⟩ = some (.int .i32 c.r) := by
    unfold setC
    rw [set_off, set_off, set_off]
    · exact set_on k0
    all_goals omega
  have h1 : (setC w g o c).cell? ⟨g, o + 1, none⟩ = some (.int .u8 c.f) := by
    unfold setC
    rw [set_off, set_off]
    · refine set_on (u := .int .u8 x.f) ?_
      rw [set_off]
      · exact k1
      · omega
    all_goals omega
  have h2 : (setC w g o c).cell? ⟨g, o + 2, none⟩ = some (.int .u8 c.b) := by
    unfold setC
    rw [set_off]
    · refine set_on (u := .int .u8 x.b) ?_
      rw [set_off, set_off]
      · exact k2
      all_goals omega
    · omega
  have h3 : (setC w g o c).cell? ⟨g, o + 3, none⟩ = some (.int .u8 c.a) := by
    unfold setC
    refine set_on (u := .int .u8 x.a) ?_
    rw [set_off, set_off, set_off]
    · exact k3
    all_goals omega
  intro j u hu
  match j, hu with
  | 0, hu => simp only [Cel.cells, List.getElem?_cons_zero, Option.some.injEq] at hu; rw [← hu]; exact h0
  | 1, hu => simp only [Cel.cells, List.getElem?_cons_succ, List.getElem?_cons_zero, Option.some.injEq] at hu; rw [← hu]; exact h1
  | 2, hu => simp only [Cel.cells, List.getElem?_cons_succ, List.getElem?_cons_zero, Option.some.injEq] at hu; rw [← hu]; exact h2
  | 3, hu => simp only [Cel.cells, List.getElem?_cons_succ, List.getElem?_cons_zero, Option.some.injEq] at hu; rw [← hu]; exact h3
  | j + 4, hu => simp [Cel.cells] at hu
theorem setC_other {w : World} {g o p : Nat} {x : Cel} (h : CelAt w g p x) (hp : p + 4 ≤ o ∨ o + 4 ≤ p) (c : Cel) : CelAt (setC w g o c) g p x := by
  intro j u hu
  have hj : j < 4 := by
    have := (List.getElem?_eq_some_iff.1 hu).1
    simpa [Cel.cells] using this
  unfold setC
  rw [set_off, set_off, set_off, set_off]
  · exact h j u hu
  all_goals omega
theorem cells_setC {w : World} {g n cap : Nat} {l : List Cel} (h : IsCells w (.slice (some ⟨g, 0, none⟩) n cap) l) {k : Nat} (hk : k < l.length) {c : Cel} (hc : c.ok) : IsCells (setC w g (k * 4) c) (.slice (some ⟨g, 0, none⟩) n cap) (l.set k c) := by
  have hn := h.len
  refine ⟨some ⟨g, 0, none⟩, cap, by rw [List.length_set, hn.1], ⟨by rw [List.length_set]; omega, fun e => by cases e⟩, fun i x hi => ?_⟩
  rw [List.getElem?_set] at hi
  split at hi
  · rename_i he
    subst he
    obtain rfl := Option.some.inj hi
    obtain ⟨_, hy⟩ := h.at' (List.getElem?_eq_getElem hk)
    rw [Nat.zero_add] at hy
    refine ⟨hc, g, 0, rfl, ?_⟩
    rw [Nat.zero_add]
    exact setC_same hy c
  · rename_i he
    obtain ⟨hx, hy⟩ := h.at' hi
    refine ⟨hx, g, 0, rfl, setC_other hy ?_ c⟩
    rcases Nat.lt_trichotomy i k with h1 | h1 | h1
    · left; omega
    · exact absurd h1.symm he
    · right; omega
theorem own_frozen {w : World} {base g n c : Nat} {l : List Cel} (h : OwnC w base (.slice (some ⟨g, 0, none⟩) n c) l) (i : Nat) : w.frozen? ⟨g, i, none⟩ = false := by
  rcases h.2 with ⟨e, _⟩ | ⟨g', cap, cur, e, _, hg, _⟩
  · cases e
  · injection e with e _ _
    injection e with e
    injection e with e _ _
    subst e
    simp [World.frozen?, hg]
theorem setC_ext {w0 w : World} {g o : Nat} (h : Ext w0 w) (hg : w0.heap.size ≤ g) (c : Cel) : Ext w0 (setC w g o c) :=
  (((h.setCell (p := ⟨g, o, none⟩) hg _).setCell (p := ⟨g, o + 1, none⟩) hg _).setCell (p := ⟨g, o + 2, none⟩) hg _).setCell (p := ⟨g, o + 3, none⟩) hg _
theorem spot (n : Int) (N : Nat) (hN : 0 < N) (h : N ≤ 100) : ∃ k : Nat, Int.tmod (Int.tmod n N + N) N = k ∧ k < N ∧ (-100 ≤ Int.tmod n N + N ∧ Int.tmod n N + N ≤ 200) ∧ (-100 ≤ Int.tmod n N ∧ Int.tmod n N ≤ 100) := by
  have h1 := Int.tmod_lt_of_pos n (show (0 : Int) < (N : Int) by omega)
  have h2 : -(N : Int) < Int.tmod n N := by
    rcases Int.le_total 0 n with h | h
    · have := Int.tmod_nonneg (N : Int) h; omega
    · have h3 := Int.tmod_nonneg (N : Int) (show 0 ≤ -n by omega)
      have h4 := Int.tmod_lt_of_pos (-n) (show (0 : Int) < (N : Int) by omega)
      rw [Int.neg_tmod] at h3 h4
      omega
  have h3 := Int.tmod_nonneg (N : Int) (show 0 ≤ Int.tmod n N + N by omega)
  have h4 := Int.tmod_lt_of_pos (Int.tmod n N + N) (show (0 : Int) < (N : Int) by omega)
  exact ⟨(Int.tmod (Int.tmod n N + N) N).toNat, by omega, by omega, ⟨by omega, by omega⟩, by omega, by omega⟩
set_option maxHeartbeats 8000000 in
set_option maxRecDepth 100000 in
theorem cellTells_true (raw : List Cel) (vr : Value) (zs : List Int) (vl : Value) (n : Int) (p : Cel) (m : Int) (w : World) (hr : IsCells w vr raw) (hmr : raw.length ≤ maxLen) (hl : IsInts w vl zs) (hml : zs.length ≤ maxLen) (hn : isI64 n) (hp : p.ok) (hm : isI32 m) (hS : Spans w) :
    Calls Tryd.prog 3 #[vr, vl, .agg #[.int .i64 n, .int .i32 p.r, .int .u8 p.f, .int .u8 p.b, .int .u8 p.a, .int .i32 m]] w fun e w' => e = .returned (.bool true) ∧ Ext w w' := by
  obtain ⟨pr, pf, pb, pa⟩ := p
  have H := Lib.hid (And.intro hr (And.intro hmr (And.intro hl (And.intro hml (And.intro hn (And.intro hp (And.intro hm hS))))))); clear hr hmr hl hml hn hp hm hS
  dsimp only
  go_enter Tryd.func3, Tryd.ntmps3
  go_wp2_with fail
  refine (awakeC_true _ (H.out.2.2.2.2.2.2.2.ext ((Ext.refl w).alloc _))).mono ?_
  rintro e w1 ⟨rfl, hx1⟩
  have hb1 : Blk w1 w.heap.size 27 #[.int .i64 n, .int .i32 pr, .int .u8 pf, .int .u8 pb, .int .u8 pa, .int .i32 m] := Blk.ext (Go.heap_alloc_new _ _) hx1
  have H1 := Lib.hid (And.intro hb1 (((Ext.refl w).alloc _).trans hx1)); clear hb1 hx1
  generalize hbq : w.heap.size = bq at H1 ⊢
  have HQ := Lib.hid hbq; clear hbq
  go_wp2_with fail
  refine (fewC_of raw vr _ (H.out.1.ext H1.out.2) H.out.2.1).mono ?_
  rintro e w2 ⟨⟨vx, rfl, hvx⟩, rfl⟩
  have HX := Lib.hid hvx; clear hvx
  go_wp2_with fail
  refine (RowC_of zs vl _ (H.out.2.2.1.ext H1.out.2) H.out.2.2.2.1).mono ?_
  rintro e w3 ⟨vy, rfl, ho3, hx3⟩
  have H3 := Lib.hid (And.intro (H1.out.1.ext hx3) (And.intro (ho3.isCells (row_ok zs)) (And.intro (HX.out.ext hx3) (H1.out.2.trans hx3)))); clear ho3 hx3
  have hYl := row_len zs
  have hYo := row_ok zs
  generalize rowL zs = Y at H3 hYl hYo
  obtain ⟨A, c0, rfl, hYc, hA⟩ := H3.out.2.1.form
  generalize hN : Y.length = N at hYl hYc H3 ⊢
  have HY := Lib.hid (And.intro hYo hN); clear hYo hN
  have hx4 := (Ext.refl w3).alloc (.cells #[] 25)
  have ho4 : OwnC (w3.alloc (.cells #[] 25)) w3.heap.size (.slice (some ⟨w3.heap.size, 0, none⟩) 0 0) [] := OwnC.new w3 [] (by decide)
  have H4 := Lib.hid (And.intro ho4 hx4); clear ho4 hx4
  go_wp2_with (at_builtin; refine wpList_app_cells rfl _ _ rfl w3.heap.size _ [] rfl H4.out.1 _ Y rfl (H3.out.2.1.ext H4.out.2) (by simp) (by have := HY.out.2; omega) H4.out.2.size ?_)
  intro vz w5 hap
  have hx5 := hap.ext H4.out.1 H4.out.2 (Nat.le_refl _)
  have hz5 := hap.own
  have H5 := Lib.hid (And.intro hz5 (H3.out.2.2.2.trans hx5))
  have H5b := Lib.hid hx5
  clear hap hx5
  by_cases h0 : 0 < N
  · obtain ⟨gz, cz, rfl, hgz, _⟩ := World.ownsRow.form hz5 (by rw [HY.out.2]; exact h0)
    obtain ⟨k, hk, hkN, ⟨b1, b2⟩, b3, b4⟩ := spot n N h0 (by omega)
    rw [HY.out.2]
    have HZ := Lib.hid (And.intro hz5 (And.intro hgz (And.intro hk hkN))); clear hz5 hgz
    have hb5 := H3.out.1.ext H5b.out
    have q0 : w5.cell? ⟨bq, 0, none⟩ = some (.int .i64 n) := hb5.cell 0
    have q1 : w5.cell? ⟨bq, 1, none⟩ = some (.int .i32 pr) := hb5.cell 1
    have q2 : w5.cell? ⟨bq, 2, none⟩ = some (.int .u8 pf) := hb5.cell 2
    have q3 : w5.cell? ⟨bq, 3, none⟩ = some (.int .u8 pb) := hb5.cell 3
    have q4 : w5.cell? ⟨bq, 4, none⟩ = some (.int .u8 pa) := hb5.cell 4
    have q5 : w5.cell? ⟨bq, 5, none⟩ = some (.int .i32 m) := hb5.cell 5
    have hwk : IntKind.i64.wrap (n.tmod (N : Int) + (N : Int)) = n.tmod (N : Int) + (N : Int) := by rw [IntKind.wrap_i64]; omega
    have hwk1 : IntKind.i64.wrap (n.tmod (N : Int)) = n.tmod (N : Int) := by rw [IntKind.wrap_i64]; omega
    have hwk2 : IntKind.i64.wrap (k : Int) = k := by rw [IntKind.wrap_i64]; omega
    have hN0 : ¬ (N : Int) = 0 := by omega
    obtain ⟨x, hx⟩ : ∃ x, Y[k]? = some x := ⟨Y[k]'(by rw [HY.out.2]; exact hkN), List.getElem?_eq_getElem _⟩
    have hzi := (HZ.out.1.isCells HY.out.1)
    rw [HY.out.2] at hzi
    obtain ⟨z0, z1, z2, z3⟩ := cel_all4 (hzi.at' hx).2
    rw [Nat.zero_add] at z0 z1 z2 z3
    have f0 := own_frozen (by have h := HZ.out.1; rw [HY.out.2] at h; exact h) (k * 4)
    have f1 := own_frozen (by have h := HZ.out.1; rw [HY.out.2] at h; exact h) (k * 4 + 1)
    have f2 := own_frozen (by have h := HZ.out.1; rw [HY.out.2] at h; exact h) (k * 4 + 2)
    have f3 := own_frozen (by have h := HZ.out.1; rw [HY.out.2] at h; exact h) (k * 4 + 3)
    have HZI := Lib.hid hzi; clear hzi hb5 hx
    go_wp2_with fail
    have hsc : setC w5 gz (k * 4) ⟨pr, pf, pb, pa⟩ = (((w5.setCell ⟨gz, k * 4, none⟩ (.int .i32 pr)).setCell ⟨gz, k * 4 + 1, none⟩ (.int .u8 pf)).setCell ⟨gz, k * 4 + 2, none⟩ (.int .u8 pb)).setCell ⟨gz, k * 4 + 3, none⟩ (.int .u8 pa) := rfl
    have hiz := cells_setC HZI.out (k := k) (by rw [HY.out.2]; exact HZ.out.2.2.2) H.out.2.2.2.2.2.1
    have hx6 := setC_ext (o := k * 4) H5b.out HZ.out.2.1 ⟨pr, pf, pb, pa⟩
    rw [← hsc]
    generalize setC w5 gz (k * 4) ⟨pr, pf, pb, pa⟩ = w6 at hiz hx6 ⊢
    have HC := Lib.hid (And.intro (H3.out.1.ext hx6) (And.intro (H3.out.2.2.1.ext hx6) (And.intro (H3.out.2.1.ext hx6) (And.intro hiz (And.intro (show (Y.set k ⟨pr, pf, pb, pa⟩).length ≤ 80 by rw [List.length_set, HY.out.2]; exact hYl) (H3.out.2.2.2.trans hx6))))))
    clear hiz hx6 hsc q0 q1 q2 q3 q4 q5 z0 z1 z2 z3 f0 f1 f2 f3 hwk hwk1 hwk2 hN0
    have q1 : w6.cell? ⟨bq, 1, none⟩ = some (.int .i32 pr) := HC.out.1.cell 1
    have q2 : w6.cell? ⟨bq, 2, none⟩ = some (.int .u8 pf) := HC.out.1.cell 2
    have q3 : w6.cell? ⟨bq, 3, none⟩ = some (.int .u8 pb) := HC.out.1.cell 3
    have q4 : w6.cell? ⟨bq, 4, none⟩ = some (.int .u8 pa) := HC.out.1.cell 4
    have q5 : w6.cell? ⟨bq, 5, none⟩ = some (.int .i32 m) := HC.out.1.cell 5
    have hfin : ∀ w9, Ext w6 w9 → Ext w w9 ∧ Spans w9 := fun w9 h => ⟨HC.out.2.2.2.2.2.trans h, (H.out.2.2.2.2.2.2.2.ext HC.out.2.2.2.2.2).ext h⟩
    have HF := Lib.hid hfin; clear hfin
    have hmk := make_ok m ⟨pr, pf, pb, pa⟩ H.out.2.2.2.2.2.2.1 H.out.2.2.2.2.2.1
    have hml : (makeL m ⟨pr, pf, pb, pa⟩).length ≤ 2 := by
      have h1 := make_len m ⟨pr, pf, pb, pa⟩ H.out.2.2.2.2.2.2.1
      rcases width_cases m H.out.2.2.2.2.2.2.1 with h | h | h <;> omega
    generalize hMX : makeL m ⟨pr, pf, pb, pa⟩ = MX at hmk hml
    have HMX := Lib.hid (And.intro hMX (And.intro hmk hml)); clear hMX hmk hml
    go_region_held3 (fun w' => w'.cell? ⟨bq, 1, none⟩ = some (.int .i32 pr) ∧ w'.cell? ⟨bq, 2, none⟩ = some (.int .u8 pf) ∧ w'.cell? ⟨bq, 3, none⟩ = some (.int .u8 pb) ∧ w'.cell? ⟨bq, 4, none⟩ = some (.int .u8 pa) ∧ w'.cell? ⟨bq, 5, none⟩ = some (.int .i32 m)) (first | exact gS | exact gT | exact gU | go_keep)
      (first
        | (go_at_call 13; refine (Make_of m ⟨pr, pf, pb, pa⟩ _ H.out.2.2.2.2.2.2.1 H.out.2.2.2.2.2.1 (HF.out _ (Ext.refl w6).drew).2).mono ?_; rintro e w7 ⟨v7, rfl, ho7, hx7⟩; rw [HMX.out.1] at ho7; have G7 := Lib.hid (And.intro (ho7.isCells HMX.out.2.1) ((Ext.refl w6).drew.trans hx7)); clear ho7 hx7; have gS : w7.cell? ⟨bq, 1, none⟩ = some (.int .i32 pr) ∧ w7.cell? ⟨bq, 2, none⟩ = some (.int .u8 pf) ∧ w7.cell? ⟨bq, 3, none⟩ = some (.int .u8 pb) ∧ w7.cell? ⟨bq, 4, none⟩ = some (.int .u8 pa) ∧ w7.cell? ⟨bq, 5, none⟩ = some (.int .i32 m) := ⟨G7.out.2.cell q1, G7.out.2.cell q2, G7.out.2.cell q3, G7.out.2.cell q4, G7.out.2.cell q5⟩)
        | (go_at_call 14; refine (RefMake_of m ⟨pr, pf, pb, pa⟩ _ H.out.2.2.2.2.2.2.1 H.out.2.2.2.2.2.1).mono ?_; rintro e w8 ⟨v8, rfl, ho8, hx8⟩; rw [HMX.out.1] at ho8; have G8 := Lib.hid (And.intro (ho8.isCells HMX.out.2.1) (And.intro (G7.out.1.ext hx8) (G7.out.2.trans hx8))); clear ho8 hx8; have gT : w8.cell? ⟨bq, 1, none⟩ = some (.int .i32 pr) ∧ w8.cell? ⟨bq, 2, none⟩ = some (.int .u8 pf) ∧ w8.cell? ⟨bq, 3, none⟩ = some (.int .u8 pb) ∧ w8.cell? ⟨bq, 4, none⟩ = some (.int .u8 pa) ∧ w8.cell? ⟨bq, 5, none⟩ = some (.int .i32 m) := ⟨G8.out.2.2.cell q1, G8.out.2.2.cell q2, G8.out.2.2.cell q3, G8.out.2.2.cell q4, G8.out.2.2.cell q5⟩)
        | (go_at_call 12; refine (SameC_of MX MX _ _ _ G8.out.2.1 G8.out.1 (by have := HMX.out.2.2; unfold maxLen; omega)).mono ?_; rintro e w9 ⟨rfl, hx9⟩; rw [decide_eq_true (rfl : MX = MX)]; have G9 := Lib.hid (G8.out.2.2.trans hx9); clear hx9; have gU : w9.cell? ⟨bq, 1, none⟩ = some (.int .i32 pr) ∧ w9.cell? ⟨bq, 2, none⟩ = some (.int .u8 pf) ∧ w9.cell? ⟨bq, 3, none⟩ = some (.int .u8 pb) ∧ w9.cell? ⟨bq, 4, none⟩ = some (.int .u8 pa) ∧ w9.cell? ⟨bq, 5, none⟩ = some (.int .i32 m) := ⟨G9.out.cell q1, G9.out.cell q2, G9.out.cell q3, G9.out.cell q4, G9.out.cell q5⟩))
    all_goals
      have z1 : ∀ nn : In (Ext w9), nn.val.cell? ⟨bq, 1, none⟩ = some (.int .i32 pr) := fun nn => nn.prop.cell (G9.out.cell q1)
      have z2 : ∀ nn : In (Ext w9), nn.val.cell? ⟨bq, 2, none⟩ = some (.int .u8 pf) := fun nn => nn.prop.cell (G9.out.cell q2)
      have z3 : ∀ nn : In (Ext w9), nn.val.cell? ⟨bq, 3, none⟩ = some (.int .u8 pb) := fun nn => nn.prop.cell (G9.out.cell q3)
      have z4 : ∀ nn : In (Ext w9), nn.val.cell? ⟨bq, 4, none⟩ = some (.int .u8 pa) := fun nn => nn.prop.cell (G9.out.cell q4)
      have hT1 : ∀ W, Ext w9 W → Calls Tryd.prog 15 #[vx] W fun e w' => e = .returned (.bool true) ∧ Ext W w' := fun W hW => tellsC_of _ _ W (HC.out.2.1.ext (G9.out.trans hW)) (HF.out _ (G9.out.trans hW)).2 (Nat.le_trans (fewC_len raw 40) (by decide))
      have hT2 : ∀ W, Ext w9 W → Calls Tryd.prog 15 #[.slice A N c0] W fun e w' => e = .returned (.bool true) ∧ Ext W w' := fun W hW => tellsC_of _ _ W (HC.out.2.2.1.ext (G9.out.trans hW)) (HF.out _ (G9.out.trans hW)).2 (by rw [HY.out.2]; omega)
      have hT3 : ∀ W, Ext w9 W → Calls Tryd.prog 15 #[(.slice (some ⟨gz, 0, none⟩) N cz)] W fun e w' => e = .returned (.bool true) ∧ Ext W w' := fun W hW => tellsC_of _ _ W (HC.out.2.2.2.1.ext (G9.out.trans hW)) (HF.out _ (G9.out.trans hW)).2 (by have := HC.out.2.2.2.2.1; omega)
      have hC1 : ∀ W, Ext w9 W → Calls Tryd.prog 16 #[.agg #[.int .i32 pr, .int .u8 pf, .int .u8 pb, .int .u8 pa]] W fun e w' => e = .returned (.bool (Cel.check ⟨pr, pf, pb, pa⟩)) ∧ Ext W w' := fun W hW => Check_of ⟨pr, pf, pb, pa⟩ W H.out.2.2.2.2.2.1 (HF.out _ (G9.out.trans hW)).2
      have hC2 : ∀ W, Ext w9 W → Calls Tryd.prog 17 #[.agg #[.int .i32 pr, .int .u8 pf, .int .u8 pb, .int .u8 pa]] W fun e w' => e = .returned (.bool (Cel.check ⟨pr, pf, pb, pa⟩)) ∧ Ext W w' := fun W hW => RefCheck_of ⟨pr, pf, pb, pa⟩ W H.out.2.2.2.2.2.1
      have hB1 : ∀ W, Ext w9 W → Calls Tryd.prog 18 #[] W fun e w' => e = .returned (.agg #[.int .i32 32, .int .u8 0, .int .u8 0, .int .u8 0]) ∧ Ext W w' := fun W hW => Blank_of W
      have hB2 : ∀ W, Ext w9 W → Calls Tryd.prog 19 #[] W fun e w' => e = .returned (.agg #[.int .i32 32, .int .u8 0, .int .u8 0, .int .u8 0]) ∧ Ext W w' := fun W hW => RefBlank_of W
      have hfe := (HF.out _ G9.out).1
      have HE := Lib.hid (And.intro hfe (And.intro hT1 (And.intro hT2 (And.intro hT3 (And.intro hB1 hB2))))); clear hfe hT1 hT2 hT3 hB1 hB2
      generalize Cel.check ⟨pr, pf, pb, pa⟩ = CK at hC1 hC2
      have HCK := Lib.hid (And.intro hC1 hC2); clear hC1 hC2
      have hcb : celEq ⟨32, 0, 0, 0⟩ ⟨32, 0, 0, 0⟩ = true := by decide
      have hne : Nonempty (In (Ext w9)) := in_ext w9
      clear gS gT gU q1 q2 q3 q4 q5
      go_wp2_with fail
      refine wp_region_class (Ext w9) (by kernel_rfl) (by kernel_rfl) (Ext.refl w9).drew ?_
      repeat (go_big_quiet_step (first
        | (go_at_call_of 15 vx; exact quiet_ext (fun W hW => HE.out.2.1 W hW) _)
        | (go_at_call_of 15 (Value.slice A N c0); exact quiet_ext (fun W hW => HE.out.2.2.1 W hW) _)
        | (go_at_call_of 15 (Value.slice (some ⟨gz, 0, none⟩) N cz); exact quiet_ext (fun W hW => HE.out.2.2.2.1 W hW) _)
        | (go_at_call 16; exact quiet_ext (fun W hW => HCK.out.1 W hW) _)
        | (go_at_call 17; exact quiet_ext (fun W hW => HCK.out.2 W hW) _)
        | (go_at_call 18; exact quiet_ext (fun W hW => HE.out.2.2.2.2.1 W hW) _)
        | (go_at_call 19; exact quiet_ext (fun W hW => HE.out.2.2.2.2.2 W hW) _)))
      refine wpQuiet_nil ?_
      rintro _ ⟨nn, rfl⟩
      have hp9 := HE.out.1.trans nn.prop
      generalize nn.val = w10 at hp9 ⊢
      have HX10 := Lib.hid hp9; clear hp9 z1 z2 z3 z4 hne
      go_wp2_with fail
      go_ret
      exact ⟨rfl, HX10.out⟩
  · obtain ⟨Az, cz, rfl, _⟩ := hz5.form
    obtain rfl : N = 0 := by omega
    have hyn := HY.out.2
    rw [hyn]
    have hiz := hz5.isCells HY.out.1
    rw [hyn] at hiz
    have HC := Lib.hid (And.intro (H3.out.1.ext H5b.out) (And.intro (H3.out.2.2.1.ext H5b.out) (And.intro (H3.out.2.1.ext H5b.out) (And.intro hiz (And.intro (show Y.length ≤ 80 by rw [hyn]; exact hYl) (H3.out.2.2.2.trans H5b.out))))))
    clear hiz hz5 hyn
    go_wp2_with fail
    clear H5 H5b H4
    generalize w5 = w6 at HC ⊢
    have q1 : w6.cell? ⟨bq, 1, none⟩ = some (.int .i32 pr) := HC.out.1.cell 1
    have q2 : w6.cell? ⟨bq, 2, none⟩ = some (.int .u8 pf) := HC.out.1.cell 2
    have q3 : w6.cell? ⟨bq, 3, none⟩ = some (.int .u8 pb) := HC.out.1.cell 3
    have q4 : w6.cell? ⟨bq, 4, none⟩ = some (.int .u8 pa) := HC.out.1.cell 4
    have q5 : w6.cell? ⟨bq, 5, none⟩ = some (.int .i32 m) := HC.out.1.cell 5
    have hfin : ∀ w9, Ext w6 w9 → Ext w w9 ∧ Spans w9 := fun w9 h => ⟨HC.out.2.2.2.2.2.trans h, (H.out.2.2.2.2.2.2.2.ext HC.out.2.2.2.2.2).ext h⟩
    have HF := Lib.hid hfin; clear hfin
    have hmk := make_ok m ⟨pr, pf, pb, pa⟩ H.out.2.2.2.2.2.2.1 H.out.2.2.2.2.2.1
    have hml : (makeL m ⟨pr, pf, pb, pa⟩).length ≤ 2 := by
      have h1 := make_len m ⟨pr, pf, pb, pa⟩ H.out.2.2.2.2.2.2.1
      rcases width_cases m H.out.2.2.2.2.2.2.1 with h | h | h <;> omega
    generalize hMX : makeL m ⟨pr, pf, pb, pa⟩ = MX at hmk hml
    have HMX := Lib.hid (And.intro hMX (And.intro hmk hml)); clear hMX hmk hml
    go_region_held3 (fun w' => w'.cell? ⟨bq, 1, none⟩ = some (.int .i32 pr) ∧ w'.cell? ⟨bq, 2, none⟩ = some (.int .u8 pf) ∧ w'.cell? ⟨bq, 3, none⟩ = some (.int .u8 pb) ∧ w'.cell? ⟨bq, 4, none⟩ = some (.int .u8 pa) ∧ w'.cell? ⟨bq, 5, none⟩ = some (.int .i32 m)) (first | exact gS | exact gT | exact gU | go_keep)
      (first
        | (go_at_call 13; refine (Make_of m ⟨pr, pf, pb, pa⟩ _ H.out.2.2.2.2.2.2.1 H.out.2.2.2.2.2.1 (HF.out _ (Ext.refl w6).drew).2).mono ?_; rintro e w7 ⟨v7, rfl, ho7, hx7⟩; rw [HMX.out.1] at ho7; have G7 := Lib.hid (And.intro (ho7.isCells HMX.out.2.1) ((Ext.refl w6).drew.trans hx7)); clear ho7 hx7; have gS : w7.cell? ⟨bq, 1, none⟩ = some (.int .i32 pr) ∧ w7.cell? ⟨bq, 2, none⟩ = some (.int .u8 pf) ∧ w7.cell? ⟨bq, 3, none⟩ = some (.int .u8 pb) ∧ w7.cell? ⟨bq, 4, none⟩ = some (.int .u8 pa) ∧ w7.cell? ⟨bq, 5, none⟩ = some (.int .i32 m) := ⟨G7.out.2.cell q1, G7.out.2.cell q2, G7.out.2.cell q3, G7.out.2.cell q4, G7.out.2.cell q5⟩)
        | (go_at_call 14; refine (RefMake_of m ⟨pr, pf, pb, pa⟩ _ H.out.2.2.2.2.2.2.1 H.out.2.2.2.2.2.1).mono ?_; rintro e w8 ⟨v8, rfl, ho8, hx8⟩; rw [HMX.out.1] at ho8; have G8 := Lib.hid (And.intro (ho8.isCells HMX.out.2.1) (And.intro (G7.out.1.ext hx8) (G7.out.2.trans hx8))); clear ho8 hx8; have gT : w8.cell? ⟨bq, 1, none⟩ = some (.int .i32 pr) ∧ w8.cell? ⟨bq, 2, none⟩ = some (.int .u8 pf) ∧ w8.cell? ⟨bq, 3, none⟩ = some (.int .u8 pb) ∧ w8.cell? ⟨bq, 4, none⟩ = some (.int .u8 pa) ∧ w8.cell? ⟨bq, 5, none⟩ = some (.int .i32 m) := ⟨G8.out.2.2.cell q1, G8.out.2.2.cell q2, G8.out.2.2.cell q3, G8.out.2.2.cell q4, G8.out.2.2.cell q5⟩)
        | (go_at_call 12; refine (SameC_of MX MX _ _ _ G8.out.2.1 G8.out.1 (by have := HMX.out.2.2; unfold maxLen; omega)).mono ?_; rintro e w9 ⟨rfl, hx9⟩; rw [decide_eq_true (rfl : MX = MX)]; have G9 := Lib.hid (G8.out.2.2.trans hx9); clear hx9; have gU : w9.cell? ⟨bq, 1, none⟩ = some (.int .i32 pr) ∧ w9.cell? ⟨bq, 2, none⟩ = some (.int .u8 pf) ∧ w9.cell? ⟨bq, 3, none⟩ = some (.int .u8 pb) ∧ w9.cell? ⟨bq, 4, none⟩ = some (.int .u8 pa) ∧ w9.cell? ⟨bq, 5, none⟩ = some (.int .i32 m) := ⟨G9.out.cell q1, G9.out.cell q2, G9.out.cell q3, G9.out.cell q4, G9.out.cell q5⟩))
    all_goals
      have z1 : ∀ nn : In (Ext w9), nn.val.cell? ⟨bq, 1, none⟩ = some (.int .i32 pr) := fun nn => nn.prop.cell (G9.out.cell q1)
      have z2 : ∀ nn : In (Ext w9), nn.val.cell? ⟨bq, 2, none⟩ = some (.int .u8 pf) := fun nn => nn.prop.cell (G9.out.cell q2)
      have z3 : ∀ nn : In (Ext w9), nn.val.cell? ⟨bq, 3, none⟩ = some (.int .u8 pb) := fun nn => nn.prop.cell (G9.out.cell q3)
      have z4 : ∀ nn : In (Ext w9), nn.val.cell? ⟨bq, 4, none⟩ = some (.int .u8 pa) := fun nn => nn.prop.cell (G9.out.cell q4)
      have hT1 : ∀ W, Ext w9 W → Calls Tryd.prog 15 #[vx] W fun e w' => e = .returned (.bool true) ∧ Ext W w' := fun W hW => tellsC_of _ _ W (HC.out.2.1.ext (G9.out.trans hW)) (HF.out _ (G9.out.trans hW)).2 (Nat.le_trans (fewC_len raw 40) (by decide))
      have hT2 : ∀ W, Ext w9 W → Calls Tryd.prog 15 #[.slice A 0 c0] W fun e w' => e = .returned (.bool true) ∧ Ext W w' := fun W hW => tellsC_of _ _ W (HC.out.2.2.1.ext (G9.out.trans hW)) (HF.out _ (G9.out.trans hW)).2 (by rw [HY.out.2]; omega)
      have hT3 : ∀ W, Ext w9 W → Calls Tryd.prog 15 #[(.slice Az 0 cz)] W fun e w' => e = .returned (.bool true) ∧ Ext W w' := fun W hW => tellsC_of _ _ W (HC.out.2.2.2.1.ext (G9.out.trans hW)) (HF.out _ (G9.out.trans hW)).2 (by have := HC.out.2.2.2.2.1; omega)
      have hC1 : ∀ W, Ext w9 W → Calls Tryd.prog 16 #[.agg #[.int .i32 pr, .int .u8 pf, .int .u8 pb, .int .u8 pa]] W fun e w' => e = .returned (.bool (Cel.check ⟨pr, pf, pb, pa⟩)) ∧ Ext W w' := fun W hW => Check_of ⟨pr, pf, pb, pa⟩ W H.out.2.2.2.2.2.1 (HF.out _ (G9.out.trans hW)).2
      have hC2 : ∀ W, Ext w9 W → Calls Tryd.prog 17 #[.agg #[.int .i32 pr, .int .u8 pf, .int .u8 pb, .int .u8 pa]] W fun e w' => e = .returned (.bool (Cel.check ⟨pr, pf, pb, pa⟩)) ∧ Ext W w' := fun W hW => RefCheck_of ⟨pr, pf, pb, pa⟩ W H.out.2.2.2.2.2.1
      have hB1 : ∀ W, Ext w9 W → Calls Tryd.prog 18 #[] W fun e w' => e = .returned (.agg #[.int .i32 32, .int .u8 0, .int .u8 0, .int .u8 0]) ∧ Ext W w' := fun W hW => Blank_of W
      have hB2 : ∀ W, Ext w9 W → Calls Tryd.prog 19 #[] W fun e w' => e = .returned (.agg #[.int .i32 32, .int .u8 0, .int .u8 0, .int .u8 0]) ∧ Ext W w' := fun W hW => RefBlank_of W
      have hfe := (HF.out _ G9.out).1
      have HE := Lib.hid (And.intro hfe (And.intro hT1 (And.intro hT2 (And.intro hT3 (And.intro hB1 hB2))))); clear hfe hT1 hT2 hT3 hB1 hB2
      generalize Cel.check ⟨pr, pf, pb, pa⟩ = CK at hC1 hC2
      have HCK := Lib.hid (And.intro hC1 hC2); clear hC1 hC2
      have hcb : celEq ⟨32, 0, 0, 0⟩ ⟨32, 0, 0, 0⟩ = true := by decide
      have hne : Nonempty (In (Ext w9)) := in_ext w9
      clear gS gT gU q1 q2 q3 q4 q5
      go_wp2_with fail
      refine wp_region_class (Ext w9) (by kernel_rfl) (by kernel_rfl) (Ext.refl w9).drew ?_
      repeat (go_big_quiet_step (first
        | (go_at_call_of 15 vx; exact quiet_ext (fun W hW => HE.out.2.1 W hW) _)
        | (go_at_call_of 15 (Value.slice A 0 c0); exact quiet_ext (fun W hW => HE.out.2.2.1 W hW) _)
        | (go_at_call_of 15 (Value.slice Az 0 cz); exact quiet_ext (fun W hW => HE.out.2.2.2.1 W hW) _)
        | (go_at_call 16; exact quiet_ext (fun W hW => HCK.out.1 W hW) _)
        | (go_at_call 17; exact quiet_ext (fun W hW => HCK.out.2 W hW) _)
        | (go_at_call 18; exact quiet_ext (fun W hW => HE.out.2.2.2.2.1 W hW) _)
        | (go_at_call 19; exact quiet_ext (fun W hW => HE.out.2.2.2.2.2 W hW) _)))
      refine wpQuiet_nil ?_
      rintro _ ⟨nn, rfl⟩
      have hp9 := HE.out.1.trans nn.prop
      generalize nn.val = w10 at hp9 ⊢
      have HX10 := Lib.hid hp9; clear hp9 z1 z2 z3 z4 hne
      go_wp2_with fail
      go_ret
      exact ⟨rfl, HX10.out⟩
end Go.Proofs.YtckdchkegbdiaaaDoor
