/- The law EscapeEnds, walked. -/
import Derived.Test.YtmppbmbhnoaggabEscI
import Derived.Test.YtmppbmbhnoaggabEscNumMath
namespace Go.Proofs.Ytmppbmbhnoaggab
open Go Go.RowKit

/-- Three parsers, and what was there. -/
structure Tri (W w : World) (sa sb sc : Par) : Prop where
  a : ParAt w W.heap.size sa
  b : ParAt w (W.heap.size + 1) sb
  c : ParAt w (W.heap.size + 1 + 1) sc
  ext : Ext W w
theorem Tri.ex {W w w' : World} {sa sb sc : Par} (h : Tri W w sa sb sc) (hx : Ext w w') : Tri W w' sa sb sc := ⟨h.a.ext hx, h.b.ext hx, h.c.ext hx, h.ext.trans hx⟩
theorem Tri.ta {W w w' : World} {sa sb sc s : Par} (h : Tri W w sa sb sc) (hp : ParAt w' W.heap.size s) (ho : Only W.heap.size w w') : Tri W w' s sb sc := ⟨hp, h.b.only ho (by omega), h.c.only ho (by omega), ext_only h.ext ho (Nat.le_refl _)⟩
theorem Tri.tb {W w w' : World} {sa sb sc s : Par} (h : Tri W w sa sb sc) (hp : ParAt w' (W.heap.size + 1) s) (ho : Only (W.heap.size + 1) w w') : Tri W w' sa s sc := ⟨h.a.only ho (by omega), hp, h.c.only ho (by omega), ext_only h.ext ho (by omega)⟩
theorem Tri.tc {W w w' : World} {sa sb sc s : Par} (h : Tri W w sa sb sc) (hp : ParAt w' (W.heap.size + 1 + 1) s) (ho : Only (W.heap.size + 1 + 1) w w') : Tri W w' sa sb s := ⟨h.a.only ho (by omega), h.b.only ho (by omega), hp, ext_only h.ext ho (by omega)⟩
theorem Tri.gt {W w : World} {sa sb sc : Par} (h : Tri W w sa sb sc) : W.heap.size + 1 + 1 < w.heap.size := h.c.lt
theorem tri_new (W : World) : Tri W (((W.alloc (.cells zero12 28)).alloc (.cells zero12 28)).alloc (.cells zero12 28)) .new .new .new := by
  have h2 := par_new (W.alloc (.cells zero12 28))
  rw [World.size_alloc] at h2
  have h3 := par_new ((W.alloc (.cells zero12 28)).alloc (.cells zero12 28))
  rw [World.size_alloc, World.size_alloc] at h3
  exact ⟨(par_new W).ext (((Ext.refl _).alloc _).alloc _), h2.ext ((Ext.refl _).alloc _), h3, (((Ext.refl _).alloc _).alloc _).alloc _⟩
/-- The acts of a few characters. -/
theorem acts_few (X : List Int) (h : X.length ≤ 60) : okAs (runE .new X).1 ∧ (runE .new X).1.length ≤ 60 :=
  ⟨acts_runE (ok_innE 0 (by decide) (by decide)) X, Nat.le_trans (len_runE _ _) h⟩
set_option maxHeartbeats 8000000 in
set_option maxRecDepth 100000 in
theorem escapeEnds_true (xs ys : List Int) (va vb : Value) (w : World) (ha : IsRunes w va xs) (hma : xs.length ≤ maxLen) (hb : IsRunes w vb ys) (hmb : ys.length ≤ maxLen) :
    Calls Try.prog 5 #[va, vb] w fun e w' => e = .returned (.bool true) ∧ Ext w w' := by
  have hlx := fewL_len xs 60
  have hly := fewL_len ys 60
  have H := Lib.hid (And.intro (And.intro ha hma) (And.intro hb hmb)); clear ha hma hb hmb
  obtain ⟨X, hX⟩ : ∃ X, fewL xs 60 = X := ⟨_, rfl⟩
  obtain ⟨Y, hY⟩ : ∃ Y, fewL ys 60 = Y := ⟨_, rfl⟩
  rw [hX] at hlx
  rw [hY] at hly
  have hacts := acts_few Y hly
  have hokX := ok_runE (s := .new) (ok_innE 0 (by decide) (by decide)) X
  have HL := Lib.hid (And.intro hlx (And.intro hly (And.intro hX (And.intro hY (And.intro hacts hokX))))); clear hlx hly hX hY hacts hokX
  go_enter Try.func5, Try.ntmps5
  go_wp2_with fail
  refine (awake_true _).mono ?_
  rintro e W ⟨rfl, hx1⟩
  have HXY := Lib.hid (And.intro (H.out.1.1.ext hx1) (H.out.2.1.ext hx1))
  have H1 := Lib.hid (And.intro hx1 (tri_new W)); clear hx1
  go_wp2_with fail
  refine (few_of xs va _ (HXY.out.1.ext H1.out.2.ext) H.out.1.2).mono ?_
  rintro e w1 ⟨⟨v1, rfl, _, h1⟩, rfl⟩
  rw [HL.out.2.2.1] at h1
  have HR1 := Lib.hid (h1 W HXY.out.1); clear h1
  go_wp2_with fail
  refine (Feed_of _ W.heap.size .new v1 X H1.out.2.a (ok_innE 0 (by decide) (by decide)) (HR1.out.ext H1.out.2.ext) (HR1.out.beside (Nat.le_refl _)) (by have := HL.out.1; omega)).mono ?_
  rintro e w2 ⟨_, rfl, _, hp2, ho2⟩
  have T2 := Lib.hid (H1.out.2.ta hp2 ho2); clear hp2 ho2
  have T3 := Lib.hid (T2.out.ex ((Ext.refl w2).alloc (.cells #[.int .i32 24] 21)))
  go_wp2_with fail
  refine (Feed_of _ W.heap.size _ _ [24] T3.out.a HL.out.2.2.2.2.2 (runes_new w2 [24] (by unfold isI32; decide) 1 rfl (by decide) #[.int .i32 24] rfl) (fun _ => beside_new (by have := T2.out.gt; omega)) (show 1 ≤ 100000 by decide)).mono ?_
  rintro e w4 ⟨_, rfl, _, hp4, ho4⟩
  have T4 := Lib.hid (T3.out.ta hp4 ho4); clear hp4 ho4 T2 T3
  have hcan : (runE (runE .new X).2 [24]).2 = .new := rfl
  rw [hcan] at T4
  go_wp2_with fail
  refine (few_of xs va _ (HXY.out.1.ext T4.out.ext) H.out.1.2).mono ?_
  rintro e w5 ⟨⟨v5, rfl, _, h5⟩, rfl⟩
  rw [HL.out.2.2.1] at h5
  have HR5 := Lib.hid (h5 W HXY.out.1); clear h5
  go_wp2_with fail
  refine (Feed_of _ (W.heap.size + 1 + 1) .new v5 X T4.out.c (ok_innE 0 (by decide) (by decide)) (HR5.out.ext T4.out.ext) (HR5.out.beside (by omega)) (by have := HL.out.1; omega)).mono ?_
  rintro e w6 ⟨_, rfl, _, hp6, ho6⟩
  have T6 := Lib.hid (T4.out.tc hp6 ho6); clear hp6 ho6 T4
  go_wp2_with fail
  refine (Reset_of _ (W.heap.size + 1 + 1) _ T6.out.c HL.out.2.2.2.2.2.len).mono ?_
  rintro e w7 ⟨rfl, hp7, ho7⟩
  have T7 := Lib.hid (T6.out.tc hp7 ho7); clear hp7 ho7 T6
  go_wp2_with fail
  refine (Idle_of _ W.heap.size .new T7.out.a rfl).mono ?_
  rintro e w8 ⟨rfl, rfl⟩
  rw [show decide (Par.new.st = 0) = true from rfl]
  go_wp2_with fail
  refine (few_of ys vb _ (HXY.out.2.ext T7.out.ext) H.out.2.2).mono ?_
  rintro e w9 ⟨⟨v9, rfl, _, h9⟩, rfl⟩
  rw [HL.out.2.2.2.1] at h9
  have HR9 := Lib.hid (h9 W HXY.out.2); clear h9
  go_wp2_with fail
  refine (Feed_of _ W.heap.size .new v9 Y T7.out.a (ok_innE 0 (by decide) (by decide)) (HR9.out.ext T7.out.ext) (HR9.out.beside (Nat.le_refl _)) (by have := HL.out.2.1; omega)).mono ?_
  rintro e wa ⟨r1, rfl, hr1, hpa, hoa⟩
  have TA := Lib.hid (T7.out.ta hpa hoa)
  have hg7 := T7.out.gt
  have R1 := Lib.hid (And.intro hr1 hg7); clear hpa hoa hr1 T7 hg7
  go_wp2_with fail
  refine (few_of ys vb _ (HXY.out.2.ext TA.out.ext) H.out.2.2).mono ?_
  rintro e wb ⟨⟨vb', rfl, _, hb'⟩, rfl⟩
  rw [HL.out.2.2.2.1] at hb'
  have HRB := Lib.hid (hb' W HXY.out.2); clear hb'
  go_wp2_with fail
  refine (Feed_of _ (W.heap.size + 1) .new vb' Y TA.out.b (ok_innE 0 (by decide) (by decide)) (HRB.out.ext TA.out.ext) (HRB.out.beside (by omega)) (by have := HL.out.2.1; omega)).mono ?_
  rintro e wc ⟨r2, rfl, hr2, hpc, hoc⟩
  have TC := Lib.hid (TA.out.tb hpc hoc)
  have hgA := TA.out.gt
  have R2 := Lib.hid (And.intro (R1.out.1.only hoc (by have := R1.out.2; omega)) (And.intro hr2 hgA)); clear hpc hoc hr2 TA hgA
  go_wp2_with fail
  refine (few_of ys vb _ (HXY.out.2.ext TC.out.ext) H.out.2.2).mono ?_
  rintro e wd ⟨⟨vd, rfl, _, hd⟩, rfl⟩
  rw [HL.out.2.2.2.1] at hd
  have HRD := Lib.hid (hd W HXY.out.2); clear hd
  go_wp2_with fail
  refine (Feed_of _ (W.heap.size + 1 + 1) .new vd Y TC.out.c (ok_innE 0 (by decide) (by decide)) (HRD.out.ext TC.out.ext) (HRD.out.beside (by omega)) (by have := HL.out.2.1; omega)).mono ?_
  rintro e we ⟨r3, rfl, hr3, hpe, hoe⟩
  have TE := Lib.hid (TC.out.tc hpe hoe)
  have R3 := Lib.hid (And.intro (R2.out.1.only hoe (by have := R1.out.2; omega)) (And.intro (R2.out.2.1.only hoe (by have := R2.out.2.2; omega)) hr3)); clear hpe hoe hr3 TC R1 R2
  go_wp2_with fail
  refine (SameA_of _ r1 r2 _ _ _ R3.out.1 R3.out.2.1 HL.out.2.2.2.2.1.1 (by have := HL.out.2.2.2.2.1.2; omega)).mono ?_
  rintro e wf ⟨rfl, hxf⟩
  have RF := Lib.hid (And.intro (R3.out.2.1.ext hxf) (And.intro (R3.out.2.2.ext hxf) (TE.out.ext.trans hxf))); clear hxf R3 TE
  go_wp2_with fail
  refine (SameA_of _ r3 r2 _ _ _ RF.out.2.1 RF.out.1 HL.out.2.2.2.2.1.1 (by have := HL.out.2.2.2.2.1.2; omega)).mono ?_
  rintro e wg ⟨rfl, hxg⟩
  have RG := Lib.hid (RF.out.2.2.trans hxg); clear hxg
  go_wp2
  go_ret
  exact ⟨rfl, H1.out.1.trans RG.out⟩
end Go.Proofs.Ytmppbmbhnoaggab
