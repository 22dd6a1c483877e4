/- The document's rows: does a Wide cell stand at a place with its Tail? Is a row right? What was mended. -/
import Derived.Test.YtckdchkegbdiaaaDoorMend
namespace Go.Proofs.YtckdchkegbdiaaaDoor
open Go Go.RowKit
attribute [local go_sem 10000] eq_cel

theorem cel_all4 {w : World} {g o : Nat} {c : Cel} (h : CelAt w g o c) : w.cell? ⟨g, o, none⟩ = some (.int .i32 c.r) ∧ w.cell? ⟨g, o + 1, none⟩ = some (.int .u8 c.f) ∧ w.cell? ⟨g, o + 2, none⟩ = some (.int .u8 c.b) ∧ w.cell? ⟨g, o + 3, none⟩ = some (.int .u8 c.a) :=
  ⟨h 0 _ rfl, h 1 _ rfl, h 2 _ rfl, h 3 _ rfl⟩
theorem pairL_none {l : List Cel} {i : Nat} {x : Cel} (hx : l[i]? = some x) (h : ¬ i + 1 < l.length) : pairL l i = false := by
  unfold pairL
  rw [hx, List.getElem?_eq_none (by omega)]
  rfl
theorem pairL_some {l : List Cel} {i : Nat} {x y : Cel} (hx : l[i]? = some x) (hy : l[i + 1]? = some y) : pairL l i = (x.check && x.wide && celEq y x.tail) := by
  unfold pairL
  rw [hx, hy]
  rfl
set_option maxHeartbeats 4000000 in
set_option maxRecDepth 100000 in
theorem pair_neg (v : Value) (w : World) : Calls Tryd.prog 66 #[v, .int .i64 (-1)] w fun e w' => e = .returned (.bool false) ∧ Ext w w' := by
  go_enter Tryd.func66, Tryd.ntmps66
  go_wp2_with fail
  go_quiet (fail)
  go_wp2_with fail
  go_ret
  exact ⟨rfl, (Ext.refl w).drewN _⟩
set_option maxHeartbeats 8000000 in
set_option maxRecDepth 100000 in
theorem pair_at (l : List Cel) (v : Value) (i : Nat) (w : World) (hv : IsCells w v l) (hi : i < l.length) (hm : l.length ≤ 1000000) : Calls Tryd.prog 66 #[v, .int .i64 i] w fun e w' => e = .returned (.bool (pairL l i)) ∧ Ext w w' := by
  obtain ⟨A, c, rfl, hlc, hA⟩ := hv.form
  obtain ⟨x, hx⟩ : ∃ x, l[i]? = some x := ⟨l[i]'hi, List.getElem?_eq_getElem _⟩
  obtain ⟨hxo, g, off, rfl, hcx⟩ := hv.at hx
  obtain ⟨P, hP⟩ : ∃ P, P = pairL l i := ⟨_, rfl⟩
  rw [← hP]
  generalize hL : l.length = L at hlc hi hm ⊢
  obtain ⟨k0, k1, k2, k3⟩ := cel_all4 hcx
  have HC := fun W => RefCheck_of x W hxo
  have HW := fun W => RefWide_of x W hxo
  have HT : ∀ W, Calls Tryd.prog 37 #[.agg #[.int .i32 x.r, .int .u8 x.f, .int .u8 x.b, .int .u8 x.a]] W fun e w' => e = .returned (.agg #[.int .i32 0, .int .u8 x.f, .int .u8 x.b, .int .u8 (x.a % 64 + 128)]) ∧ Ext W w' := fun W => RefTail_of x W hxo
  have z0 : ∀ n : In (Ext w), n.val.cell? ⟨g, off + i * 4, none⟩ = some (.int .i32 x.r) := fun n => n.prop.cell k0
  have z1 : ∀ n : In (Ext w), n.val.cell? ⟨g, off + i * 4 + 1, none⟩ = some (.int .u8 x.f) := fun n => n.prop.cell k1
  have z2 : ∀ n : In (Ext w), n.val.cell? ⟨g, off + i * 4 + 2, none⟩ = some (.int .u8 x.b) := fun n => n.prop.cell k2
  have z3 : ∀ n : In (Ext w), n.val.cell? ⟨g, off + i * 4 + 3, none⟩ = some (.int .u8 x.a) := fun n => n.prop.cell k3
  have hne : Nonempty (In (Ext w)) := in_ext w
  clear k0 k1 k2 k3
  have H := Lib.hid (And.intro hv (And.intro hxo (And.intro hx (And.intro hP (And.intro hL (And.intro HC (And.intro HW HT))))))); clear hv hxo hx hP hL HC HW HT hcx
  by_cases h1 : i + 1 < L
  · have hd : decide ((i : Int) + 1 < (L : Int)) = true := by simp; omega
    obtain ⟨y, hy⟩ : ∃ y, l[i + 1]? = some y := ⟨l[i + 1]'(by rw [H.out.2.2.2.2.1]; exact h1), List.getElem?_eq_getElem _⟩
    have hps := pairL_some H.out.2.2.1 hy
    rw [← H.out.2.2.2.1] at hps
    obtain ⟨m0, m1, m2, m3⟩ := cel_all4 (H.out.1.at' hy).2
    have y0 : ∀ n : In (Ext w), n.val.cell? ⟨g, off + (i + 1) * 4, none⟩ = some (.int .i32 y.r) := fun n => n.prop.cell m0
    have y1 : ∀ n : In (Ext w), n.val.cell? ⟨g, off + (i + 1) * 4 + 1, none⟩ = some (.int .u8 y.f) := fun n => n.prop.cell m1
    have y2 : ∀ n : In (Ext w), n.val.cell? ⟨g, off + (i + 1) * 4 + 2, none⟩ = some (.int .u8 y.b) := fun n => n.prop.cell m2
    have y3 : ∀ n : In (Ext w), n.val.cell? ⟨g, off + (i + 1) * 4 + 3, none⟩ = some (.int .u8 y.a) := fun n => n.prop.cell m3
    have HF : Hid ((∀ W, Calls Tryd.prog 17 #[x.val] W fun e w' => e = .returned (.bool x.check) ∧ Ext W w') ∧ (∀ W, Calls Tryd.prog 42 #[x.val] W fun e w' => e = .returned (.bool x.wide) ∧ Ext W w')) := Lib.hid ⟨H.out.2.2.2.2.2.1, H.out.2.2.2.2.2.2.1⟩
    clear m0 m1 m2 m3 hy
    generalize x.check = C at hps HF
    generalize x.wide = U at hps HF
    have HPS := Lib.hid hps; clear hps
    go_enter Tryd.func66, Tryd.ntmps66
    go_wp2_with fail
    cases C <;> cases U
    all_goals
      refine wp_region_class (Ext w) (by kernel_rfl) (by kernel_rfl) (Ext.refl w).drew ?_
      repeat (go_big_quiet_step (first
        | (go_at_call 17; exact quiet_ext (fun W hW => HF.out.1 W) _)
        | (go_at_call 42; exact quiet_ext (fun W hW => HF.out.2 W) _)
        | (go_at_call 37; exact quiet_ext (fun W hW => H.out.2.2.2.2.2.2.2 W) _)))
      refine wpQuiet_nil ?_
      rintro _ ⟨n, rfl⟩
      have HN := Lib.hid n.prop
      generalize n.val = w9 at HN ⊢
      clear z0 z1 z2 z3 y0 y1 y2 y3 hne
      go_wp2_with fail
      go_ret
      exact ⟨by rw [HPS.out]; rfl, HN.out⟩
  · have hd : decide ((i : Int) + 1 < (L : Int)) = false := by simp; omega
    have hps := pairL_none H.out.2.2.1 (by rw [H.out.2.2.2.2.1]; exact h1)
    rw [← H.out.2.2.2.1] at hps
    have HPS := Lib.hid hps; clear hps
    go_enter Tryd.func66, Tryd.ntmps66
    go_wp2_with fail
    refine wp_region_class (Ext w) (by kernel_rfl) (by kernel_rfl) (Ext.refl w).drew ?_
    repeat (go_big_quiet_step (first
      | (go_at_call 17; fail)))
    refine wpQuiet_nil ?_
    rintro _ ⟨n, rfl⟩
    have HN := Lib.hid n.prop
    generalize n.val = w9 at HN ⊢
    clear z0 z1 z2 z3 hne
    go_wp2_with fail
    go_ret
    exact ⟨by rw [HPS.out]; rfl, HN.out⟩
end Go.Proofs.YtckdchkegbdiaaaDoor
