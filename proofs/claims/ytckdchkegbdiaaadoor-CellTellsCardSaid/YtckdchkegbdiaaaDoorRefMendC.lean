/- The document's rows: what was mended. -/
import Derived.Test.YtckdchkegbdiaaaDoorPairC
namespace Go.Proofs.YtckdchkegbdiaaaDoor
open Go Go.RowKit

theorem cells_one_at (w : World) (n : Nat) (hn : w.heap.size = n) (c : Cel) (h : c.ok) : IsCells (w.alloc (.cells #[.int .i32 c.r, .int .u8 c.f, .int .u8 c.b, .int .u8 c.a] 25)) (.slice (some ⟨n, 0, none⟩) 1 1) [c] := by
  subst hn; exact cells_one w c h
set_option maxHeartbeats 8000000 in
set_option maxRecDepth 100000 in
theorem RefMend_of (l : List Cel) (v : Value) (w : World) (hv : IsCells w v l) (hm : l.length ≤ 1000000) : Calls Tryd.prog 38 #[v] w fun e w' => ∃ v', e = .returned v' ∧ OwnC w' w.heap.size v' (mendL l) ∧ Ext w w' := by
  obtain ⟨A, c, rfl, hlc, hA⟩ := hv.form
  generalize hL : l.length = L at hlc hv hm ⊢
  have H := Lib.hid (And.intro hv hL); clear hv hL
  go_enter Tryd.func38, Tryd.ntmps38
  go_wp2
  go_loopg [3, 4] L (fun k u z wr => ∃ (i : Nat) (B : Option Addr) (d : Nat), z = .int .i64 i ∧ u = .slice B ((mendL l).take i).length d ∧ Hid (i + k = L ∧ OwnC wr w.heap.size (.slice B ((mendL l).take i).length d) ((mendL l).take i) ∧ Ext w wr))
  case atStart => exact ⟨0, none, 0, rfl, rfl, Nat.zero_add _, OwnC.nil _ _, Ext.refl w⟩
  case round =>
    obtain ⟨i, B, d, rfl, rfl, hin⟩ := hrel
    have hlm := mendL_length l
    rw [H.out.2] at hlm
    by_cases hi : i < L
    · obtain ⟨x, hx⟩ : ∃ x, l[i]? = some x := ⟨l[i]'(by rw [H.out.2]; exact hi), List.getElem?_eq_getElem _⟩
      obtain ⟨hxo, g, off, rfl, hcx⟩ := H.out.1.at hx
      have hma := mend_at _ l none (Nat.le_refl _) rfl i x hx
      have hln : ((mendL l).take i).length ≤ 1000000 := by rw [List.length_take]; omega
      obtain ⟨k0, k1, k2, k3⟩ := cel_all4 (hcx.ext hin.out.2.2)
      obtain ⟨r, f, b, a⟩ := x
      have hpn : ∀ W, Ext w W → Calls Tryd.prog 66 #[.slice (some ⟨g, off, none⟩) L c, .int .i64 i] W fun e w' => e = .returned (.bool (pairL l i)) ∧ Ext W w' := fun W hW => pair_at l _ i W (H.out.1.ext hW) (by rw [H.out.2]; exact hi) (by rw [H.out.2]; exact hm)
      have hpq : ∀ W, Ext w W → Calls Tryd.prog 66 #[.slice (some ⟨g, off, none⟩) L c, .int .i64 ((i : Int) - 1)] W fun e w' => e = .returned (.bool (aheadP none l i)) ∧ Ext W w' := fun W hW => by
        cases i with
        | zero => exact pair_neg _ W
        | succ i =>
          have := pair_at l _ i W (H.out.1.ext hW) (by rw [H.out.2]; omega) (by rw [H.out.2]; omega)
          rw [show ((i + 1 : Nat) : Int) - 1 = (i : Int) by omega]
          exact this
      have HC := fun W => RefCheck_of ⟨r, f, b, a⟩ W hxo
      have HU := fun W => RefWide_of ⟨r, f, b, a⟩ W hxo
      have HT := fun W => RefTl_of ⟨r, f, b, a⟩ W hxo
      have hmp : mendP none l i ⟨r, f, b, a⟩ = if pairL l i || aheadP none l i || (Cel.check ⟨r, f, b, a⟩ && !Cel.wide ⟨r, f, b, a⟩ && !Cel.tl ⟨r, f, b, a⟩) then ⟨r, f, b, a⟩ else Cel.gone ⟨r, f, b, a⟩ := rfl
      have HQ := Lib.hid (And.intro hxo (And.intro hcx (And.intro hx hma)))
      have HFN : Hid ((∀ W, Ext w W → Calls Tryd.prog 66 #[.slice (some ⟨g, off, none⟩) L c, .int .i64 i] W fun e w' => e = .returned (.bool (pairL l i)) ∧ Ext W w') ∧ (∀ W, Ext w W → Calls Tryd.prog 66 #[.slice (some ⟨g, off, none⟩) L c, .int .i64 ((i : Int) - 1)] W fun e w' => e = .returned (.bool (aheadP none l i)) ∧ Ext W w') ∧ (∀ W, Calls Tryd.prog 17 #[Cel.val ⟨r, f, b, a⟩] W fun e w' => e = .returned (.bool (Cel.check ⟨r, f, b, a⟩)) ∧ Ext W w') ∧ (∀ W, Calls Tryd.prog 42 #[Cel.val ⟨r, f, b, a⟩] W fun e w' => e = .returned (.bool (Cel.wide ⟨r, f, b, a⟩)) ∧ Ext W w') ∧ (∀ W, Calls Tryd.prog 41 #[Cel.val ⟨r, f, b, a⟩] W fun e w' => e = .returned (.bool (Cel.tl ⟨r, f, b, a⟩)) ∧ Ext W w')) := Lib.hid ⟨hpn, hpq, HC, HU, HT⟩
      generalize pairL l i = P at hmp HFN
      generalize aheadP none l i = Q at hmp HFN
      generalize Cel.check ⟨r, f, b, a⟩ = C at hmp HFN
      generalize Cel.wide ⟨r, f, b, a⟩ = U at hmp HFN
      generalize Cel.tl ⟨r, f, b, a⟩ = T at hmp HFN
      generalize hD : (mendL l).take i = D at hin hln ⊢
      have HM := Lib.hid hD
      generalize hN : D.length = N at hin hln ⊢
      have HN := Lib.hid hN
      have HMP := Lib.hid hmp
      clear hD hN hmp HC HU HT hpn hpq hxo hcx hx hma
      have hb0 : Blk (wr.alloc (.cells #[.int .i32 r, .int .u8 f, .int .u8 b, .int .u8 a] 25)) wr.heap.size 25 #[.int .i32 r, .int .u8 f, .int .u8 b, .int .u8 a] := Go.heap_alloc_new _ _
      have HBX := Lib.hid hb0; clear hb0
      have HX := Lib.hid ((Ext.refl wr).alloc (.cells #[.int .i32 r, .int .u8 f, .int .u8 b, .int .u8 a] 25))
      go_wp2_with fail
      refine (HFN.out.2.2.1 _).mono ?_
      rintro e wz ⟨rfl, hx⟩
      have hb2 := HBX.out.ext hx
      have hx9 := HX.out.trans hx
      clear HX HBX hx
      have HX := Lib.hid hx9
      have HBX := Lib.hid hb2
      clear hx9 hb2
      clear k0 k1 k2 k3
      generalize hbx : wr.heap.size = bx at HBX ⊢
      have HBB := Lib.hid (show wr.heap.size ≤ bx by rw [← hbx]; exact Nat.le_refl _)
      clear hbx
      have k0 : wz.cell? ⟨bx, 0, none⟩ = some (.int .i32 r) := HBX.out.cell 0
      have k1 : wz.cell? ⟨bx, 1, none⟩ = some (.int .u8 f) := HBX.out.cell 1
      have k2 : wz.cell? ⟨bx, 2, none⟩ = some (.int .u8 b) := HBX.out.cell 2
      have k3 : wz.cell? ⟨bx, 3, none⟩ = some (.int .u8 a) := HBX.out.cell 3
      go_wp2_with fail
      refine (HFN.out.1 _ (hin.out.2.2.trans HX.out)).mono ?_
      rintro e wz ⟨rfl, hx⟩
      have hb2 := HBX.out.ext hx
      have hx9 := HX.out.trans hx
      clear HX HBX hx
      have HX := Lib.hid hx9
      have HBX := Lib.hid hb2
      clear hx9 hb2
      clear k0 k1 k2 k3
      have k0 : wz.cell? ⟨bx, 0, none⟩ = some (.int .i32 r) := HBX.out.cell 0
      have k1 : wz.cell? ⟨bx, 1, none⟩ = some (.int .u8 f) := HBX.out.cell 1
      have k2 : wz.cell? ⟨bx, 2, none⟩ = some (.int .u8 b) := HBX.out.cell 2
      have k3 : wz.cell? ⟨bx, 3, none⟩ = some (.int .u8 a) := HBX.out.cell 3
      go_wp2_with fail
      refine (HFN.out.2.1 _ (hin.out.2.2.trans HX.out)).mono ?_
      rintro e wz ⟨rfl, hx⟩
      have hb2 := HBX.out.ext hx
      have hx9 := HX.out.trans hx
      clear HX HBX hx
      have HX := Lib.hid hx9
      have HBX := Lib.hid hb2
      clear hx9 hb2
      clear k0 k1 k2 k3
      have k0 : wz.cell? ⟨bx, 0, none⟩ = some (.int .i32 r) := HBX.out.cell 0
      have k1 : wz.cell? ⟨bx, 1, none⟩ = some (.int .u8 f) := HBX.out.cell 1
      have k2 : wz.cell? ⟨bx, 2, none⟩ = some (.int .u8 b) := HBX.out.cell 2
      have k3 : wz.cell? ⟨bx, 3, none⟩ = some (.int .u8 a) := HBX.out.cell 3
      cases P with
      | true =>
        have hm : mendP none l i ⟨r, f, b, a⟩ = ⟨r, f, b, a⟩ := by rw [HMP.out]; simp
        rw [hm] at HQ
        clear hm
        have HG := Lib.hid (And.intro (hin.out.2.1.ext HX.out) (hin.out.2.2.trans HX.out))
        go_wp2_with (at_builtin; refine wpList_app_cells rfl _ _ rfl w.heap.size (.slice B N d) D rfl (HG.out.1.ext ((Ext.refl _).alloc _)) _ [⟨r, f, b, a⟩] rfl (cells_one _ ⟨r, f, b, a⟩ HQ.out.1) (by have := HN.out; omega) (by simp) (HG.out.2.trans ((Ext.refl _).alloc _)).size ?_)
        intro v' w5 hap
        have hx5 := hap.ext (HG.out.1.ext ((Ext.refl _).alloc _)) (HG.out.2.trans ((Ext.refl _).alloc _)) (Nat.le_refl _)
        obtain ⟨A2, c2, rfl, _⟩ := hap.own.form
        have hown := hap.own
        have hmv : D ++ [⟨r, f, b, a⟩] = (mendL l).take (i + 1) := by
          rw [take_step _ _ _ HQ.out.2.2.2, HM.out]
        rw [hmv] at hown ⊢
        have H5 := Lib.hid (And.intro hown hx5); clear hown hx5 hap hmv
        have hgk := hin.out.1
        go_wp2
        go_roundg (gk - 1)
        case measure => omega
        case rel => exact ⟨i + 1, A2, c2, by go_num, rfl, by show i + 1 + (gk - 1) = L; omega, H5.out.1, H5.out.2⟩
      | false =>
        cases Q with
        | true =>
          have hm : mendP none l i ⟨r, f, b, a⟩ = ⟨r, f, b, a⟩ := by rw [HMP.out]; simp
          rw [hm] at HQ
          clear hm
          have HG := Lib.hid (And.intro (hin.out.2.1.ext HX.out) (hin.out.2.2.trans HX.out))
          go_wp2_with (at_builtin; refine wpList_app_cells rfl _ _ rfl w.heap.size (.slice B N d) D rfl (HG.out.1.ext ((Ext.refl _).alloc _)) _ [⟨r, f, b, a⟩] rfl (cells_one _ ⟨r, f, b, a⟩ HQ.out.1) (by have := HN.out; omega) (by simp) (HG.out.2.trans ((Ext.refl _).alloc _)).size ?_)
          intro v' w5 hap
          have hx5 := hap.ext (HG.out.1.ext ((Ext.refl _).alloc _)) (HG.out.2.trans ((Ext.refl _).alloc _)) (Nat.le_refl _)
          obtain ⟨A2, c2, rfl, _⟩ := hap.own.form
          have hown := hap.own
          have hmv : D ++ [⟨r, f, b, a⟩] = (mendL l).take (i + 1) := by
            rw [take_step _ _ _ HQ.out.2.2.2, HM.out]
          rw [hmv] at hown ⊢
          have H5 := Lib.hid (And.intro hown hx5); clear hown hx5 hap hmv
          have hgk := hin.out.1
          go_wp2
          go_roundg (gk - 1)
          case measure => omega
          case rel => exact ⟨i + 1, A2, c2, by go_num, rfl, by show i + 1 + (gk - 1) = L; omega, H5.out.1, H5.out.2⟩
        | false =>
          cases C with
          | false =>
            have f0 : wz.frozen? ⟨bx, 0, none⟩ = false := HBX.out.frozen 0
            have f1 : wz.frozen? ⟨bx, 1, none⟩ = false := HBX.out.frozen 1
            have f2 : wz.frozen? ⟨bx, 2, none⟩ = false := HBX.out.frozen 2
            have f3 : wz.frozen? ⟨bx, 3, none⟩ = false := HBX.out.frozen 3
            have hm : mendP none l i ⟨r, f, b, a⟩ = Cel.gone ⟨r, f, b, a⟩ := by rw [HMP.out]; simp
            rw [hm] at HQ
            clear hm
            have hgo := (((HX.out.setCell (p := ⟨bx, 0, none⟩) HBB.out (.int .i32 32)).setCell (p := ⟨bx, 1, none⟩) HBB.out (.int .u8 f)).setCell (p := ⟨bx, 2, none⟩) HBB.out (.int .u8 b)).setCell (p := ⟨bx, 3, none⟩) HBB.out (.int .u8 0)
            have HG := Lib.hid (And.intro (hin.out.2.1.ext hgo) (hin.out.2.2.trans hgo))
            clear hgo
            go_wp2_with (at_builtin; refine wpList_app_cells rfl _ _ rfl w.heap.size (.slice B N d) D rfl (HG.out.1.ext ((Ext.refl _).alloc _)) _ [(Cel.gone ⟨r, f, b, a⟩)] rfl (cells_one_at _ wz.heap.size (by simp [World.setCell]) (Cel.gone ⟨r, f, b, a⟩) (Cel.ok_gone HQ.out.1)) (by have := HN.out; omega) (by simp) (HG.out.2.trans ((Ext.refl _).alloc _)).size ?_)
            intro v' w5 hap
            have hx5 := hap.ext (HG.out.1.ext ((Ext.refl _).alloc _)) (HG.out.2.trans ((Ext.refl _).alloc _)) (Nat.le_refl _)
            obtain ⟨A2, c2, rfl, _⟩ := hap.own.form
            have hown := hap.own
            have hmv : D ++ [(Cel.gone ⟨r, f, b, a⟩)] = (mendL l).take (i + 1) := by
              rw [take_step _ _ _ HQ.out.2.2.2, HM.out]
            rw [hmv] at hown ⊢
            have H5 := Lib.hid (And.intro hown hx5); clear hown hx5 hap hmv
            have hgk := hin.out.1
            go_wp2
            go_roundg (gk - 1)
            case measure => omega
            case rel => exact ⟨i + 1, A2, c2, by go_num, rfl, by show i + 1 + (gk - 1) = L; omega, H5.out.1, H5.out.2⟩
          | true =>
            go_wp2_with fail
            refine (HFN.out.2.2.2.1 _).mono ?_
            rintro e wz ⟨rfl, hx⟩
            have hb2 := HBX.out.ext hx
            have hx9 := HX.out.trans hx
            clear HX HBX hx
            have HX := Lib.hid hx9
            have HBX := Lib.hid hb2
            clear hx9 hb2
            clear k0 k1 k2 k3
            have k0 : wz.cell? ⟨bx, 0, none⟩ = some (.int .i32 r) := HBX.out.cell 0
            have k1 : wz.cell? ⟨bx, 1, none⟩ = some (.int .u8 f) := HBX.out.cell 1
            have k2 : wz.cell? ⟨bx, 2, none⟩ = some (.int .u8 b) := HBX.out.cell 2
            have k3 : wz.cell? ⟨bx, 3, none⟩ = some (.int .u8 a) := HBX.out.cell 3
            cases U with
            | true =>
              have f0 : wz.frozen? ⟨bx, 0, none⟩ = false := HBX.out.frozen 0
              have f1 : wz.frozen? ⟨bx, 1, none⟩ = false := HBX.out.frozen 1
              have f2 : wz.frozen? ⟨bx, 2, none⟩ = false := HBX.out.frozen 2
              have f3 : wz.frozen? ⟨bx, 3, none⟩ = false := HBX.out.frozen 3
              have hm : mendP none l i ⟨r, f, b, a⟩ = Cel.gone ⟨r, f, b, a⟩ := by rw [HMP.out]; simp
              rw [hm] at HQ
              clear hm
              have hgo := (((HX.out.setCell (p := ⟨bx, 0, none⟩) HBB.out (.int .i32 32)).setCell (p := ⟨bx, 1, none⟩) HBB.out (.int .u8 f)).setCell (p := ⟨bx, 2, none⟩) HBB.out (.int .u8 b)).setCell (p := ⟨bx, 3, none⟩) HBB.out (.int .u8 0)
              have HG := Lib.hid (And.intro (hin.out.2.1.ext hgo) (hin.out.2.2.trans hgo))
              clear hgo
              go_wp2_with (at_builtin; refine wpList_app_cells rfl _ _ rfl w.heap.size (.slice B N d) D rfl (HG.out.1.ext ((Ext.refl _).alloc _)) _ [(Cel.gone ⟨r, f, b, a⟩)] rfl (cells_one_at _ wz.heap.size (by simp [World.setCell]) (Cel.gone ⟨r, f, b, a⟩) (Cel.ok_gone HQ.out.1)) (by have := HN.out; omega) (by simp) (HG.out.2.trans ((Ext.refl _).alloc _)).size ?_)
              intro v' w5 hap
              have hx5 := hap.ext (HG.out.1.ext ((Ext.refl _).alloc _)) (HG.out.2.trans ((Ext.refl _).alloc _)) (Nat.le_refl _)
              obtain ⟨A2, c2, rfl, _⟩ := hap.own.form
              have hown := hap.own
              have hmv : D ++ [(Cel.gone ⟨r, f, b, a⟩)] = (mendL l).take (i + 1) := by
                rw [take_step _ _ _ HQ.out.2.2.2, HM.out]
              rw [hmv] at hown ⊢
              have H5 := Lib.hid (And.intro hown hx5); clear hown hx5 hap hmv
              have hgk := hin.out.1
              go_wp2
              go_roundg (gk - 1)
              case measure => omega
              case rel => exact ⟨i + 1, A2, c2, by go_num, rfl, by show i + 1 + (gk - 1) = L; omega, H5.out.1, H5.out.2⟩
            | false =>
              go_wp2_with fail
              refine (HFN.out.2.2.2.2 _).mono ?_
              rintro e wz ⟨rfl, hx⟩
              have hb2 := HBX.out.ext hx
              have hx9 := HX.out.trans hx
              clear HX HBX hx
              have HX := Lib.hid hx9
              have HBX := Lib.hid hb2
              clear hx9 hb2
              clear k0 k1 k2 k3
              have k0 : wz.cell? ⟨bx, 0, none⟩ = some (.int .i32 r) := HBX.out.cell 0
              have k1 : wz.cell? ⟨bx, 1, none⟩ = some (.int .u8 f) := HBX.out.cell 1
              have k2 : wz.cell? ⟨bx, 2, none⟩ = some (.int .u8 b) := HBX.out.cell 2
              have k3 : wz.cell? ⟨bx, 3, none⟩ = some (.int .u8 a) := HBX.out.cell 3
              cases T with
              | true =>
                have f0 : wz.frozen? ⟨bx, 0, none⟩ = false := HBX.out.frozen 0
                have f1 : wz.frozen? ⟨bx, 1, none⟩ = false := HBX.out.frozen 1
                have f2 : wz.frozen? ⟨bx, 2, none⟩ = false := HBX.out.frozen 2
                have f3 : wz.frozen? ⟨bx, 3, none⟩ = false := HBX.out.frozen 3
                have hm : mendP none l i ⟨r, f, b, a⟩ = Cel.gone ⟨r, f, b, a⟩ := by rw [HMP.out]; simp
                rw [hm] at HQ
                clear hm
                have hgo := (((HX.out.setCell (p := ⟨bx, 0, none⟩) HBB.out (.int .i32 32)).setCell (p := ⟨bx, 1, none⟩) HBB.out (.int .u8 f)).setCell (p := ⟨bx, 2, none⟩) HBB.out (.int .u8 b)).setCell (p := ⟨bx, 3, none⟩) HBB.out (.int .u8 0)
                have HG := Lib.hid (And.intro (hin.out.2.1.ext hgo) (hin.out.2.2.trans hgo))
                clear hgo
                go_wp2_with (at_builtin; refine wpList_app_cells rfl _ _ rfl w.heap.size (.slice B N d) D rfl (HG.out.1.ext ((Ext.refl _).alloc _)) _ [(Cel.gone ⟨r, f, b, a⟩)] rfl (cells_one_at _ wz.heap.size (by simp [World.setCell]) (Cel.gone ⟨r, f, b, a⟩) (Cel.ok_gone HQ.out.1)) (by have := HN.out; omega) (by simp) (HG.out.2.trans ((Ext.refl _).alloc _)).size ?_)
                intro v' w5 hap
                have hx5 := hap.ext (HG.out.1.ext ((Ext.refl _).alloc _)) (HG.out.2.trans ((Ext.refl _).alloc _)) (Nat.le_refl _)
                obtain ⟨A2, c2, rfl, _⟩ := hap.own.form
                have hown := hap.own
                have hmv : D ++ [(Cel.gone ⟨r, f, b, a⟩)] = (mendL l).take (i + 1) := by
                  rw [take_step _ _ _ HQ.out.2.2.2, HM.out]
                rw [hmv] at hown ⊢
                have H5 := Lib.hid (And.intro hown hx5); clear hown hx5 hap hmv
                have hgk := hin.out.1
                go_wp2
                go_roundg (gk - 1)
                case measure => omega
                case rel => exact ⟨i + 1, A2, c2, by go_num, rfl, by show i + 1 + (gk - 1) = L; omega, H5.out.1, H5.out.2⟩
              | false =>
                have hm : mendP none l i ⟨r, f, b, a⟩ = ⟨r, f, b, a⟩ := by rw [HMP.out]; simp
                rw [hm] at HQ
                clear hm
                have HG := Lib.hid (And.intro (hin.out.2.1.ext HX.out) (hin.out.2.2.trans HX.out))
                go_wp2_with (at_builtin; refine wpList_app_cells rfl _ _ rfl w.heap.size (.slice B N d) D rfl (HG.out.1.ext ((Ext.refl _).alloc _)) _ [⟨r, f, b, a⟩] rfl (cells_one _ ⟨r, f, b, a⟩ HQ.out.1) (by have := HN.out; omega) (by simp) (HG.out.2.trans ((Ext.refl _).alloc _)).size ?_)
                intro v' w5 hap
                have hx5 := hap.ext (HG.out.1.ext ((Ext.refl _).alloc _)) (HG.out.2.trans ((Ext.refl _).alloc _)) (Nat.le_refl _)
                obtain ⟨A2, c2, rfl, _⟩ := hap.own.form
                have hown := hap.own
                have hmv : D ++ [⟨r, f, b, a⟩] = (mendL l).take (i + 1) := by
                  rw [take_step _ _ _ HQ.out.2.2.2, HM.out]
                rw [hmv] at hown ⊢
                have H5 := Lib.hid (And.intro hown hx5); clear hown hx5 hap hmv
                have hgk := hin.out.1
                go_wp2
                go_roundg (gk - 1)
                case measure => omega
                case rel => exact ⟨i + 1, A2, c2, by go_num, rfl, by show i + 1 + (gk - 1) = L; omega, H5.out.1, H5.out.2⟩
    · have hf : (mendL l).take i = mendL l := List.take_of_length_le (by omega)
      rw [hf] at hin ⊢
      have HF := Lib.hid hf; clear hf
      go_wp2_with fail
      go_ret
      exact ⟨_, rfl, hin.out.2.1, hin.out.2.2⟩
end Go.Proofs.YtckdchkegbdiaaaDoor
