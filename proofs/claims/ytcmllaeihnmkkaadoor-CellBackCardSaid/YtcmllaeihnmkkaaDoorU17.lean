/- The document's rows as bytes. · The chapter's example; a row cut short. · Characters are appended to a row of the call's own. -/
import Derived.Test.YtcmllaeihnmkkaaDoorU10
import Derived.Test.YtcmllaeihnmkkaaDoorU12
import Derived.Test.YtcmllaeihnmkkaaDoorU13
import Derived.Test.YtcmllaeihnmkkaaDoorU15
import Derived.Test.YtcmllaeihnmkkaaDoorU16
namespace Go.Proofs.YtcmllaeihnmkkaaDoor
open Go Go.RowKit
attribute [local go_sem 10000] eq_cel

set_option maxHeartbeats 8000000 in
set_option maxRecDepth 100000 in
theorem RefBytesC_of (l : List Cel) (v : Value) (w : World) (hv : IsCells w v l) (hm : l.length ≤ 1000) : Calls Tryd.prog 13 #[v] w fun e w' => e = .returned (.string ⟨(bytesL l).toArray⟩) ∧ Ext w w' := by
  have hRR := fun W (hW : Ext w W) => RefRight_of l v W (hv.ext hW) (by omega)
  obtain ⟨A, c, rfl, hlc, hA⟩ := hv.form
  generalize hL : l.length = L at hlc hv hm hRR ⊢
  have H := Lib.hid (And.intro hv (And.intro hL (And.intro hRR hm))); clear hv hL hRR hm
  go_enter Tryd.func13, Tryd.ntmps13
  go_wp2_with fail
  refine (H.out.2.2.1 _ (Ext.refl w)).mono ?_
  rintro e w1 ⟨rfl, hx1⟩
  have HW1 := Lib.hid hx1; clear hx1
  obtain ⟨R, hR⟩ : ∃ R, R = rightL l := ⟨_, rfl⟩
  rw [← hR]
  have HR := Lib.hid hR.symm; clear hR
  cases R with
  | false =>
    have hb : bytesL l = [] := by unfold bytesL; rw [HR.out]; rfl
    have HB := Lib.hid hb; clear hb
    go_wp2_with fail
    go_loopg [4, 5] 0 (fun k u z wr => u = .string ⟨#[]⟩ ∧ z = .int .i64 0 ∧ Hid (Ext w wr))
    case atStart => exact ⟨rfl, rfl, HW1.out⟩
    case round =>
      obtain ⟨rfl, rfl, hin⟩ := hrel
      by_cases h0 : (0 : Int) < (L : Int)
      all_goals
        go_wp2_with fail
        go_ret
        exact ⟨by rw [HB.out]; rfl, hin.out⟩
  | true =>
    have hb : bytesL l = runsB (runsL l) := by unfold bytesL; rw [HR.out]; rfl
    have HB := Lib.hid hb; clear hb
    go_wp2_with fail
    go_loopg [4, 5] L (fun k u z wr => ∃ (i : Nat) (pre : List (Nat × Cel)), z = .int .i64 i ∧ u = .string ⟨(runsB pre).toArray⟩ ∧ Hid (L ≤ i + k ∧ i ≤ L ∧ rightL (l.drop i) = true ∧ pre ++ runsL (l.drop i) = runsL l ∧ Ext w wr))
    case atStart => exact ⟨0, [], rfl, rfl, by omega, Nat.zero_le _, HR.out, rfl, HW1.out⟩
    case round =>
      obtain ⟨i, pre, rfl, rfl, hin⟩ := hrel
      by_cases hi : i < L
      · obtain ⟨x, hx⟩ : ∃ x, l[i]? = some x := ⟨l[i]'(by rw [H.out.2.1]; exact hi), List.getElem?_eq_getElem _⟩
        obtain ⟨hxo, g, off, rfl, hcx⟩ := H.out.1.at hx
        obtain ⟨r, f, b, a⟩ := x
        obtain ⟨k0, k1, k2, k3⟩ := cel_all4 (hcx.ext hin.out.2.2.2.2)
        obtain ⟨t, ht⟩ : ∃ t, l.drop i = ⟨r, f, b, a⟩ :: t := ⟨_, by rw [List.drop_eq_getElem_cons (List.getElem?_eq_some_iff.1 hx).1, (List.getElem?_eq_some_iff.1 hx).2]⟩
        obtain ⟨m, hmd⟩ : ∃ m, m = l.drop i := ⟨_, rfl⟩
        rw [← hmd] at hin ht
        have hml : m.length = L - i := by rw [hmd, List.length_drop, H.out.2.1]
        have HM := Lib.hid (And.intro ht (And.intro hmd hml)); clear ht hmd hml
        have HI : Hid (L ≤ i + gk ∧ i ≤ L ∧ rightL m = true ∧ pre ++ runsL m = runsL l ∧ Ext w wr) := Lib.hid hin.out
        clear hin
        have hb0 : Blk (wr.alloc (.cells #[.int .i32 r, .int .u8 f, .int .u8 b, .int .u8 a] 57)) wr.heap.size 57 #[.int .i32 r, .int .u8 f, .int .u8 b, .int .u8 a] := Go.heap_alloc_new _ _
        have HX0 := Lib.hid ((Ext.refl wr).alloc (.cells #[.int .i32 r, .int .u8 f, .int .u8 b, .int .u8 a] 57))
        have HB0 := Lib.hid hb0; clear hb0
        have HQ := Lib.hid (And.intro hxo hcx); clear hxo hcx hx
        go_wp2_with fail
        refine (RefWide_of ⟨r, f, b, a⟩ _ HQ.out.1).mono ?_
        rintro e w2 ⟨rfl, hx2⟩
        have hb2 := HB0.out.ext hx2
        have HX3 := Lib.hid (HX0.out.trans hx2)
        have HX2 := Lib.hid (HI.out.2.2.2.2.trans (HX0.out.trans hx2))
        generalize hbx : wr.heap.size = bx at hb2 ⊢
        have HBX := Lib.hid hb2; clear hb2 hbx hx2 k0 k1 k2 k3
        generalize hU : Cel.wide ⟨r, f, b, a⟩ = U
        cases U with
        | true =>
          have hk : Cel.step ⟨r, f, b, a⟩ = 2 := by unfold Cel.step; rw [if_pos hU]
          have HK := Lib.hid hk; clear hk hU
          go_wp2
          obtain ⟨go, hgo⟩ : ∃ go, go = gk := ⟨_, rfl⟩
          have HGO := Lib.hid hgo; clear hgo
          go_loopg [5, 8] L (fun k u z wq => ∃ n q : Nat, u = .int .i64 q ∧ z = .int .i64 n ∧ q = i + n * 2 ∧ q ≤ L ∧ Hid (L ≤ q + k ∧ (∀ j, j < n → m[j * 2]? = some ⟨r, f, b, a⟩) ∧ Ext w2 wq))
          case atStart => exact ⟨0, i, rfl, rfl, by omega, by omega, by omega, fun j hj => absurd hj (Nat.not_lt_zero j), Ext.refl w2⟩
          case round =>
            obtain ⟨n, q, rfl, rfl, hqv, hql, hq⟩ := hrel
            have hnb : n ≤ 1000 := by have := H.out.2.2.2; omega
            have HQV := Lib.hid hqv; clear hqv
            by_cases hlt : q < L
            · have hd : decide ((q : Int) < (L : Int)) = true := by simp; omega
              obtain ⟨y, hy⟩ : ∃ y, l[q]? = some y := ⟨l[q]'(by rw [H.out.2.1]; exact hlt), List.getElem?_eq_getElem _⟩
              have hym : m[n * 2]? = some y := by rw [HM.out.2.1, List.getElem?_drop, ← HQV.out]; exact hy
              have hy4 := (H.out.1.at' hy).2.ext (HX2.out.trans hq.out.2.2)
              have hyo := (H.out.1.at' hy).1
              obtain ⟨yr, yf, yb, ya⟩ := y
              obtain ⟨p0, p1, p2, p3⟩ := cel_all4 hy4
              have k0 : wr.cell? ⟨bx, 0, none⟩ = some (.int .i32 r) := (HBX.out.ext hq.out.2.2).cell 0
              have k1 : wr.cell? ⟨bx, 1, none⟩ = some (.int .u8 f) := (HBX.out.ext hq.out.2.2).cell 1
              have k2 : wr.cell? ⟨bx, 2, none⟩ = some (.int .u8 b) := (HBX.out.ext hq.out.2.2).cell 2
              have k3 : wr.cell? ⟨bx, 3, none⟩ = some (.int .u8 a) := (HBX.out.ext hq.out.2.2).cell 3
              have HY := Lib.hid hym; clear hy hym hy4 hyo
              go_wp2_with fail
              go_quiet (fail)
              generalize hEq : celEq _ _ = E
              have HEQ := Lib.hid hEq; clear hEq
              clear p0 p1 p2 p3 k0 k1 k2 k3 hd
              cases E with
              | true =>
                have hxy : (Cel.mk yr yf yb ya) = ⟨r, f, b, a⟩ := celEq_true.1 HEQ.out
                have hq1 : ∀ j, j < n + 1 → m[j * 2]? = some ⟨r, f, b, a⟩ := fun j hj => by
                  rcases Nat.lt_or_ge j n with h1 | h1
                  · exact hq.out.2.1 j h1
                  · obtain rfl : j = n := by omega
                    rw [HY.out, hxy]
                have hql2 : q + 2 ≤ L := by
                  have h1 := (right_run ⟨r, f, b, a⟩ m HI.out.2.2.1 (n + 1) (by rw [HK.out]; exact hq1)).1
                  rw [HK.out, HM.out.2.2] at h1
                  have := HQV.out
                  omega
                have HQ1 := Lib.hid (And.intro hq1 hq.out); clear hq1 hxy
                have hLb := H.out.2.2.2
                go_wp2
                go_roundg (gk - 1)
                case measure => have := HQ1.out.2.1; omega
                case rel => exact ⟨n + 1, q + 2, by have := H.out.2.2.2; go_num, by go_num, by have := HQV.out; omega, hql2, by have := HQ1.out.2.1; omega, HQ1.out.1, HQ1.out.2.2.2.drewN _⟩
              | false =>
                have hxy : ¬ (Cel.mk yr yf yb ya) = ⟨r, f, b, a⟩ := celEq_false.1 HEQ.out
                have hrun : IsRun ⟨r, f, b, a⟩ 2 m n := ⟨hq.out.2.1, by rw [HY.out]; intro h; injection h with h; exact hxy h⟩
                have HRUN := Lib.hid hrun; clear hrun hxy
                have HX := Lib.hid (And.intro ((HI.out.2.2.2.2.trans HX3.out).trans (hq.out.2.2.drewN nq)) (hq.out.2.2.drewN nq))
                generalize (World.drewN _ nq) = wx at HX ⊢
                have hiu := HRUN.out.unique (runN_is ⟨r, f, b, a⟩ 2 m (by decide))
                have hrr := right_run ⟨r, f, b, a⟩ m HI.out.2.2.1 n (by rw [HK.out]; exact HRUN.out.1)
                rw [HK.out] at hrr
                have hrc : runsL m = (n, ⟨r, f, b, a⟩) :: runsL (m.drop (n * 2)) := by
                  have := runsL_cons ⟨r, f, b, a⟩ t
                  rw [← HM.out.1] at this
                  rw [HK.out, ← hiu] at this
                  exact this
                have hn1 : 1 ≤ n := by
                  rcases Nat.eq_zero_or_pos n with h | h
                  · exfalso
                    have := HRUN.out.2
                    rw [h, HM.out.1] at this
                    simp at this
                  · exact h
                have hpre : (pre ++ [(n, Cel.mk r f b a)]) ++ runsL (m.drop (n * 2)) = runsL l := by
                  rw [← HI.out.2.2.2.1, hrc, List.append_assoc]; rfl
                have hmem := runs_mem l.length l (Nat.le_refl _) (n, ⟨r, f, b, a⟩) (by rw [← HI.out.2.2.2.1, hrc]; simp)
                have hdd : m.drop (n * 2) = l.drop q := by rw [HM.out.2.1, List.drop_drop, HQV.out]
                have hri : rightL (l.drop q) = true := by rw [← hdd]; exact hrr.2
                rw [hdd] at hpre
                have hn2 : n ≤ 1000 := by have := hmem.2.2; have := H.out.2.1; have := H.out.2.2.2; simp only at *; omega
                have hql : q ≤ L := by have := hrr.1; rw [HM.out.2.2] at this; rw [HQV.out]; omega
                have o1 := HQ.out.1.1
                have o2 := HQ.out.1.2.1
                have o3 := HQ.out.1.2.2.1
                have o4 := HQ.out.1.2.2.2
                unfold isI32 at o1
                unfold isU8 at o2 o3 o4
                simp only at o1 o2 o3 o4
                have hz : ∀ z, z ∈ [(n : Int) - 1, r, f, b, a] → isI64 z := fun z hz => by
                  have h5 : z = (n : Int) - 1 ∨ z = r ∨ z = f ∨ z = b ∨ z = a := by simpa using hz
                  unfold isI64; omega
                have HP := Lib.hid (And.intro hri (And.intro hpre (And.intro hz hql))); clear hiu hrr hrc hpre hmem hdd hri hz hql
                have k0 : wx.cell? ⟨bx, 0, none⟩ = some (.int .i32 r) := (HBX.out.ext HX.out.2).cell 0
                have k1 : wx.cell? ⟨bx, 1, none⟩ = some (.int .u8 f) := (HBX.out.ext HX.out.2).cell 1
                have k2 : wx.cell? ⟨bx, 2, none⟩ = some (.int .u8 b) := (HBX.out.ext HX.out.2).cell 2
                have k3 : wx.cell? ⟨bx, 3, none⟩ = some (.int .u8 a) := (HBX.out.ext HX.out.2).cell 3
                go_wp2_with fail
                refine (RefPut_ints [(n : Int) - 1, r, f, b, a] _ _ (ints_new wx [(n : Int) - 1, r, f, b, a] 3 HP.out.2.2.1) (by decide : [(1 : Int), 1, 1, 1, 1].length ≤ 1000)).mono ?_
                rintro e w5 ⟨rfl, hx5⟩
                have hpl : (putN [(n : Int) - 1, r, f, b, a]).length ≤ 50 := putN_len _ HP.out.2.2.1
                have hbp := byte_put pre n ⟨r, f, b, a⟩
                simp only at hbp
                have hcat : (⟨(runsB pre).toArray⟩ : ByteArray) ++ ⟨(putN [(n : Int) - 1, r, f, b, a]).toArray⟩ = ⟨(runsB (pre ++ [(n, ⟨r, f, b, a⟩)])).toArray⟩ := by rw [mk_append, hbp]
                have hz1 : (⟨(runsB pre).toArray⟩ : ByteArray).size ≤ 50000 := by
                  rw [size_mk]
                  have hrl := runsB_len (runsL l) (fun x hx => ⟨H.out.1.all _ (runs_mem l.length l (Nat.le_refl _) x hx).1, (runs_mem l.length l (Nat.le_refl _) x hx).2.1, by have := (runs_mem l.length l (Nat.le_refl _) x hx).2.2; have := H.out.2.1; have := H.out.2.2.2; omega⟩)
                  have hrl2 := runs_len l.length l (Nat.le_refl _)
                  rw [← HI.out.2.2.2.1, runsB_append, List.length_append] at hrl
                  rw [← HI.out.2.2.2.1] at hrl2
                  have := H.out.2.1
                  have := H.out.2.2.2
                  omega
                have hz2 : (⟨(putN [(n : Int) - 1, r, f, b, a]).toArray⟩ : ByteArray).size ≤ 50 := by rw [size_mk]; omega
                have H5 := Lib.hid (And.intro (((HX.out.1.trans ((Ext.refl wx).alloc _))).trans hx5) hcat); clear hx5 hpl hbp hcat
                generalize (⟨(runsB pre).toArray⟩ : ByteArray) = S at hz1 H5 ⊢
                generalize (⟨(putN [(n : Int) - 1, r, f, b, a]).toArray⟩ : ByteArray) = P at hz2 H5 ⊢
                clear k0 k1 k2 k3
                go_wp2
                go_roundg (go - 1)
                case measure => have := HGO.out; have := HI.out.1; have := HQV.out; omega
                case rel =>
                  refine ⟨q, pre ++ [(n, ⟨r, f, b, a⟩)], rfl, by rw [H5.out.2], ?_, HP.out.2.2.2, HP.out.1, HP.out.2.1, H5.out.1⟩
                  have := HGO.out; have := HI.out.1; have := HP.out.2.2.2; have := HQV.out; omega
            · have hd : decide ((q : Int) < (L : Int)) = false := by simp; omega
              have hrun : IsRun ⟨r, f, b, a⟩ 2 m n := ⟨hq.out.2.1, by rw [List.getElem?_eq_none (by rw [HM.out.2.2]; have := HQV.out; omega)]; simp⟩
              have HRUN := Lib.hid hrun; clear hrun
              have HLT := Lib.hid hlt; clear hlt
              have hd2 : decide (q < L) = false := by simpa using HLT.out
              go_wp2_with fail
              go_quiet (fail)
              have HX := Lib.hid (And.intro ((HI.out.2.2.2.2.trans HX3.out).trans (hq.out.2.2.drewN nq)) (hq.out.2.2.drewN nq))
              generalize (World.drewN _ nq) = wx at HX ⊢
              clear hd hd2
              have hiu := HRUN.out.unique (runN_is ⟨r, f, b, a⟩ 2 m (by decide))
              have hrr := right_run ⟨r, f, b, a⟩ m HI.out.2.2.1 n (by rw [HK.out]; exact HRUN.out.1)
              rw [HK.out] at hrr
              have hrc : runsL m = (n, ⟨r, f, b, a⟩) :: runsL (m.drop (n * 2)) := by
                have := runsL_cons ⟨r, f, b, a⟩ t
                rw [← HM.out.1] at this
                rw [HK.out, ← hiu] at this
                exact this
              have hn1 : 1 ≤ n := by
                rcases Nat.eq_zero_or_pos n with h | h
                · exfalso
                  have := HRUN.out.2
                  rw [h, HM.out.1] at this
                  simp at this
                · exact h
              have hpre : (pre ++ [(n, Cel.mk r f b a)]) ++ runsL (m.drop (n * 2)) = runsL l := by
                rw [← HI.out.2.2.2.1, hrc, List.append_assoc]; rfl
              have hmem := runs_mem l.length l (Nat.le_refl _) (n, ⟨r, f, b, a⟩) (by rw [← HI.out.2.2.2.1, hrc]; simp)
              have hdd : m.drop (n * 2) = l.drop q := by rw [HM.out.2.1, List.drop_drop, HQV.out]
              have hri : rightL (l.drop q) = true := by rw [← hdd]; exact hrr.2
              rw [hdd] at hpre
              have hn2 : n ≤ 1000 := by have := hmem.2.2; have := H.out.2.1; have := H.out.2.2.2; simp only at *; omega
              have hql : q ≤ L := by have := hrr.1; rw [HM.out.2.2] at this; rw [HQV.out]; omega
              have o1 := HQ.out.1.1
              have o2 := HQ.out.1.2.1
              have o3 := HQ.out.1.2.2.1
              have o4 := HQ.out.1.2.2.2
              unfold isI32 at o1
              unfold isU8 at o2 o3 o4
              simp only at o1 o2 o3 o4
              have hz : ∀ z, z ∈ [(n : Int) - 1, r, f, b, a] → isI64 z := fun z hz => by
                have h5 : z = (n : Int) - 1 ∨ z = r ∨ z = f ∨ z = b ∨ z = a := by simpa using hz
                unfold isI64; omega
              have HP := Lib.hid (And.intro hri (And.intro hpre (And.intro hz hql))); clear hiu hrr hrc hpre hmem hdd hri hz hql
              have k0 : wx.cell? ⟨bx, 0, none⟩ = some (.int .i32 r) := (HBX.out.ext HX.out.2).cell 0
              have k1 : wx.cell? ⟨bx, 1, none⟩ = some (.int .u8 f) := (HBX.out.ext HX.out.2).cell 1
              have k2 : wx.cell? ⟨bx, 2, none⟩ = some (.int .u8 b) := (HBX.out.ext HX.out.2).cell 2
              have k3 : wx.cell? ⟨bx, 3, none⟩ = some (.int .u8 a) := (HBX.out.ext HX.out.2).cell 3
              go_wp2_with fail
              refine (RefPut_ints [(n : Int) - 1, r, f, b, a] _ _ (ints_new wx [(n : Int) - 1, r, f, b, a] 3 HP.out.2.2.1) (by decide : [(1 : Int), 1, 1, 1, 1].length ≤ 1000)).mono ?_
              rintro e w5 ⟨rfl, hx5⟩
              have hpl : (putN [(n : Int) - 1, r, f, b, a]).length ≤ 50 := putN_len _ HP.out.2.2.1
              have hbp := byte_put pre n ⟨r, f, b, a⟩
              simp only at hbp
              have hcat : (⟨(runsB pre).toArray⟩ : ByteArray) ++ ⟨(putN [(n : Int) - 1, r, f, b, a]).toArray⟩ = ⟨(runsB (pre ++ [(n, ⟨r, f, b, a⟩)])).toArray⟩ := by rw [mk_append, hbp]
              have hz1 : (⟨(runsB pre).toArray⟩ : ByteArray).size ≤ 50000 := by
                rw [size_mk]
                have hrl := runsB_len (runsL l) (fun x hx => ⟨H.out.1.all _ (runs_mem l.length l (Nat.le_refl _) x hx).1, (runs_mem l.length l (Nat.le_refl _) x hx).2.1, by have := (runs_mem l.length l (Nat.le_refl _) x hx).2.2; have := H.out.2.1; have := H.out.2.2.2; omega⟩)
                have hrl2 := runs_len l.length l (Nat.le_refl _)
                rw [← HI.out.2.2.2.1, runsB_append, List.length_append] at hrl
                rw [← HI.out.2.2.2.1] at hrl2
                have := H.out.2.1
                have := H.out.2.2.2
                omega
              have hz2 : (⟨(putN [(n : Int) - 1, r, f, b, a]).toArray⟩ : ByteArray).size ≤ 50 := by rw [size_mk]; omega
              have H5 := Lib.hid (And.intro (((HX.out.1.trans ((Ext.refl wx).alloc _))).trans hx5) hcat); clear hx5 hpl hbp hcat
              generalize (⟨(runsB pre).toArray⟩ : ByteArray) = S at hz1 H5 ⊢
              generalize (⟨(putN [(n : Int) - 1, r, f, b, a]).toArray⟩ : ByteArray) = P at hz2 H5 ⊢
              clear k0 k1 k2 k3
              go_wp2
              go_roundg (go - 1)
              case measure => have := HGO.out; have := HI.out.1; have := HQV.out; omega
              case rel =>
                refine ⟨q, pre ++ [(n, ⟨r, f, b, a⟩)], rfl, by rw [H5.out.2], ?_, HP.out.2.2.2, HP.out.1, HP.out.2.1, H5.out.1⟩
                have := HGO.out; have := HI.out.1; have := HP.out.2.2.2; have := HQV.out; omega
        | false =>
          have hk : Cel.step ⟨r, f, b, a⟩ = 1 := by unfold Cel.step; rw [hU]; rfl
          have HK := Lib.hid hk; clear hk hU
          go_wp2
          obtain ⟨go, hgo⟩ : ∃ go, go = gk := ⟨_, rfl⟩
          have HGO := Lib.hid hgo; clear hgo
          go_loopg [5, 8] L (fun k u z wq => ∃ n q : Nat, u = .int .i64 q ∧ z = .int .i64 n ∧ q = i + n * 1 ∧ q ≤ L ∧ Hid (L ≤ q + k ∧ (∀ j, j < n → m[j * 1]? = some ⟨r, f, b, a⟩) ∧ Ext w2 wq))
          case atStart => exact ⟨0, i, rfl, rfl, by omega, by omega, by omega, fun j hj => absurd hj (Nat.not_lt_zero j), Ext.refl w2⟩
          case round =>
            obtain ⟨n, q, rfl, rfl, hqv, hql, hq⟩ := hrel
            have hnb : n ≤ 1000 := by have := H.out.2.2.2; omega
            have HQV := Lib.hid hqv; clear hqv
            by_cases hlt : q < L
            · have hd : decide ((q : Int) < (L : Int)) = true := by simp; omega
              obtain ⟨y, hy⟩ : ∃ y, l[q]? = some y := ⟨l[q]'(by rw [H.out.2.1]; exact hlt), List.getElem?_eq_getElem _⟩
              have hym : m[n * 1]? = some y := by rw [HM.out.2.1, List.getElem?_drop, ← HQV.out]; exact hy
              have hy4 := (H.out.1.at' hy).2.ext (HX2.out.trans hq.out.2.2)
              have hyo := (H.out.1.at' hy).1
              obtain ⟨yr, yf, yb, ya⟩ := y
              obtain ⟨p0, p1, p2, p3⟩ := cel_all4 hy4
              have k0 : wr.cell? ⟨bx, 0, none⟩ = some (.int .i32 r) := (HBX.out.ext hq.out.2.2).cell 0
              have k1 : wr.cell? ⟨bx, 1, none⟩ = some (.int .u8 f) := (HBX.out.ext hq.out.2.2).cell 1
              have k2 : wr.cell? ⟨bx, 2, none⟩ = some (.int .u8 b) := (HBX.out.ext hq.out.2.2).cell 2
              have k3 : wr.cell? ⟨bx, 3, none⟩ = some (.int .u8 a) := (HBX.out.ext hq.out.2.2).cell 3
              have HY := Lib.hid hym; clear hy hym hy4 hyo
              go_wp2_with fail
              go_quiet (fail)
              generalize hEq : celEq _ _ = E
              have HEQ := Lib.hid hEq; clear hEq
              clear p0 p1 p2 p3 k0 k1 k2 k3 hd
              cases E with
              | true =>
                have hxy : (Cel.mk yr yf yb ya) = ⟨r, f, b, a⟩ := celEq_true.1 HEQ.out
                have hq1 : ∀ j, j < n + 1 → m[j * 1]? = some ⟨r, f, b, a⟩ := fun j hj => by
                  rcases Nat.lt_or_ge j n with h1 | h1
                  · exact hq.out.2.1 j h1
                  · obtain rfl : j = n := by omega
                    rw [HY.out, hxy]
                have hql2 : q + 1 ≤ L := by
                  have h1 := (right_run ⟨r, f, b, a⟩ m HI.out.2.2.1 (n + 1) (by rw [HK.out]; exact hq1)).1
                  rw [HK.out, HM.out.2.2] at h1
                  have := HQV.out
                  omega
                have HQ1 := Lib.hid (And.intro hq1 hq.out); clear hq1 hxy
                have hLb := H.out.2.2.2
                go_wp2
                go_roundg (gk - 1)
                case measure => have := HQ1.out.2.1; omega
                case rel => exact ⟨n + 1, q + 1, by have := H.out.2.2.2; go_num, by go_num, by have := HQV.out; omega, hql2, by have := HQ1.out.2.1; omega, HQ1.out.1, HQ1.out.2.2.2.drewN _⟩
              | false =>
                have hxy : ¬ (Cel.mk yr yf yb ya) = ⟨r, f, b, a⟩ := celEq_false.1 HEQ.out
                have hrun : IsRun ⟨r, f, b, a⟩ 1 m n := ⟨hq.out.2.1, by rw [HY.out]; intro h; injection h with h; exact hxy h⟩
                have HRUN := Lib.hid hrun; clear hrun hxy
                have HX := Lib.hid (And.intro ((HI.out.2.2.2.2.trans HX3.out).trans (hq.out.2.2.drewN nq)) (hq.out.2.2.drewN nq))
                generalize (World.drewN _ nq) = wx at HX ⊢
                have hiu := HRUN.out.unique (runN_is ⟨r, f, b, a⟩ 1 m (by decide))
                have hrr := right_run ⟨r, f, b, a⟩ m HI.out.2.2.1 n (by rw [HK.out]; exact HRUN.out.1)
                rw [HK.out] at hrr
                have hrc : runsL m = (n, ⟨r, f, b, a⟩) :: runsL (m.drop (n * 1)) := by
                  have := runsL_cons ⟨r, f, b, a⟩ t
                  rw [← HM.out.1] at this
                  rw [HK.out, ← hiu] at this
                  exact this
                have hn1 : 1 ≤ n := by
                  rcases Nat.eq_zero_or_pos n with h | h
                  · exfalso
                    have := HRUN.out.2
                    rw [h, HM.out.1] at this
                    simp at this
                  · exact h
                have hpre : (pre ++ [(n, Cel.mk r f b a)]) ++ runsL (m.drop (n * 1)) = runsL l := by
                  rw [← HI.out.2.2.2.1, hrc, List.append_assoc]; rfl
                have hmem := runs_mem l.length l (Nat.le_refl _) (n, ⟨r, f, b, a⟩) (by rw [← HI.out.2.2.2.1, hrc]; simp)
                have hdd : m.drop (n * 1) = l.drop q := by rw [HM.out.2.1, List.drop_drop, HQV.out]
                have hri : rightL (l.drop q) = true := by rw [← hdd]; exact hrr.2
                rw [hdd] at hpre
                have hn2 : n ≤ 1000 := by have := hmem.2.2; have := H.out.2.1; have := H.out.2.2.2; simp only at *; omega
                have hql : q ≤ L := by have := hrr.1; rw [HM.out.2.2] at this; rw [HQV.out]; omega
                have o1 := HQ.out.1.1
                have o2 := HQ.out.1.2.1
                have o3 := HQ.out.1.2.2.1
                have o4 := HQ.out.1.2.2.2
                unfold isI32 at o1
                unfold isU8 at o2 o3 o4
                simp only at o1 o2 o3 o4
                have hz : ∀ z, z ∈ [(n : Int) - 1, r, f, b, a] → isI64 z := fun z hz => by
                  have h5 : z = (n : Int) - 1 ∨ z = r ∨ z = f ∨ z = b ∨ z = a := by simpa using hz
                  unfold isI64; omega
                have HP := Lib.hid (And.intro hri (And.intro hpre (And.intro hz hql))); clear hiu hrr hrc hpre hmem hdd hri hz hql
                have k0 : wx.cell? ⟨bx, 0, none⟩ = some (.int .i32 r) := (HBX.out.ext HX.out.2).cell 0
                have k1 : wx.cell? ⟨bx, 1, none⟩ = some (.int .u8 f) := (HBX.out.ext HX.out.2).cell 1
                have k2 : wx.cell? ⟨bx, 2, none⟩ = some (.int .u8 b) := (HBX.out.ext HX.out.2).cell 2
                have k3 : wx.cell? ⟨bx, 3, none⟩ = some (.int .u8 a) := (HBX.out.ext HX.out.2).cell 3
                go_wp2_with fail
                refine (RefPut_ints [(n : Int) - 1, r, f, b, a] _ _ (ints_new wx [(n : Int) - 1, r, f, b, a] 3 HP.out.2.2.1) (by decide : [(1 : Int), 1, 1, 1, 1].length ≤ 1000)).mono ?_
                rintro e w5 ⟨rfl, hx5⟩
                have hpl : (putN [(n : Int) - 1, r, f, b, a]).length ≤ 50 := putN_len _ HP.out.2.2.1
                have hbp := byte_put pre n ⟨r, f, b, a⟩
                simp only at hbp
                have hcat : (⟨(runsB pre).toArray⟩ : ByteArray) ++ ⟨(putN [(n : Int) - 1, r, f, b, a]).toArray⟩ = ⟨(runsB (pre ++ [(n, ⟨r, f, b, a⟩)])).toArray⟩ := by rw [mk_append, hbp]
                have hz1 : (⟨(runsB pre).toArray⟩ : ByteArray).size ≤ 50000 := by
                  rw [size_mk]
                  have hrl := runsB_len (runsL l) (fun x hx => ⟨H.out.1.all _ (runs_mem l.length l (Nat.le_refl _) x hx).1, (runs_mem l.length l (Nat.le_refl _) x hx).2.1, by have := (runs_mem l.length l (Nat.le_refl _) x hx).2.2; have := H.out.2.1; have := H.out.2.2.2; omega⟩)
                  have hrl2 := runs_len l.length l (Nat.le_refl _)
                  rw [← HI.out.2.2.2.1, runsB_append, List.length_append] at hrl
                  rw [← HI.out.2.2.2.1] at hrl2
                  have := H.out.2.1
                  have := H.out.2.2.2
                  omega
                have hz2 : (⟨(putN [(n : Int) - 1, r, f, b, a]).toArray⟩ : ByteArray).size ≤ 50 := by rw [size_mk]; omega
                have H5 := Lib.hid (And.intro (((HX.out.1.trans ((Ext.refl wx).alloc _))).trans hx5) hcat); clear hx5 hpl hbp hcat
                generalize (⟨(runsB pre).toArray⟩ : ByteArray) = S at hz1 H5 ⊢
                generalize (⟨(putN [(n : Int) - 1, r, f, b, a]).toArray⟩ : ByteArray) = P at hz2 H5 ⊢
                clear k0 k1 k2 k3
                go_wp2
                go_roundg (go - 1)
                case measure => have := HGO.out; have := HI.out.1; have := HQV.out; omega
                case rel =>
                  refine ⟨q, pre ++ [(n, ⟨r, f, b, a⟩)], rfl, by rw [H5.out.2], ?_, HP.out.2.2.2, HP.out.1, HP.out.2.1, H5.out.1⟩
                  have := HGO.out; have := HI.out.1; have := HP.out.2.2.2; have := HQV.out; omega
            · have hd : decide ((q : Int) < (L : Int)) = false := by simp; omega
              have hrun : IsRun ⟨r, f, b, a⟩ 1 m n := ⟨hq.out.2.1, by rw [List.getElem?_eq_none (by rw [HM.out.2.2]; have := HQV.out; omega)]; simp⟩
              have HRUN := Lib.hid hrun; clear hrun
              have HLT := Lib.hid hlt; clear hlt
              have hd2 : decide (q < L) = false := by simpa using HLT.out
              go_wp2_with fail
              go_quiet (fail)
              have HX := Lib.hid (And.intro ((HI.out.2.2.2.2.trans HX3.out).trans (hq.out.2.2.drewN nq)) (hq.out.2.2.drewN nq))
              generalize (World.drewN _ nq) = wx at HX ⊢
              clear hd hd2
              have hiu := HRUN.out.unique (runN_is ⟨r, f, b, a⟩ 1 m (by decide))
              have hrr := right_run ⟨r, f, b, a⟩ m HI.out.2.2.1 n (by rw [HK.out]; exact HRUN.out.1)
              rw [HK.out] at hrr
              have hrc : runsL m = (n, ⟨r, f, b, a⟩) :: runsL (m.drop (n * 1)) := by
                have := runsL_cons ⟨r, f, b, a⟩ t
                rw [← HM.out.1] at this
                rw [HK.out, ← hiu] at this
                exact this
              have hn1 : 1 ≤ n := by
                rcases Nat.eq_zero_or_pos n with h | h
                · exfalso
                  have := HRUN.out.2
                  rw [h, HM.out.1] at this
                  simp at this
                · exact h
              have hpre : (pre ++ [(n, Cel.mk r f b a)]) ++ runsL (m.drop (n * 1)) = runsL l := by
                rw [← HI.out.2.2.2.1, hrc, List.append_assoc]; rfl
              have hmem := runs_mem l.length l (Nat.le_refl _) (n, ⟨r, f, b, a⟩) (by rw [← HI.out.2.2.2.1, hrc]; simp)
              have hdd : m.drop (n * 1) = l.drop q := by rw [HM.out.2.1, List.drop_drop, HQV.out]
              have hri : rightL (l.drop q) = true := by rw [← hdd]; exact hrr.2
              rw [hdd] at hpre
              have hn2 : n ≤ 1000 := by have := hmem.2.2; have := H.out.2.1; have := H.out.2.2.2; simp only at *; omega
              have hql : q ≤ L := by have := hrr.1; rw [HM.out.2.2] at this; rw [HQV.out]; omega
              have o1 := HQ.out.1.1
              have o2 := HQ.out.1.2.1
              have o3 := HQ.out.1.2.2.1
              have o4 := HQ.out.1.2.2.2
              unfold isI32 at o1
              unfold isU8 at o2 o3 o4
              simp only at o1 o2 o3 o4
              have hz : ∀ z, z ∈ [(n : Int) - 1, r, f, b, a] → isI64 z := fun z hz => by
                have h5 : z = (n : Int) - 1 ∨ z = r ∨ z = f ∨ z = b ∨ z = a := by simpa using hz
                unfold isI64; omega
              have HP := Lib.hid (And.intro hri (And.intro hpre (And.intro hz hql))); clear hiu hrr hrc hpre hmem hdd hri hz hql
              have k0 : wx.cell? ⟨bx, 0, none⟩ = some (.int .i32 r) := (HBX.out.ext HX.out.2).cell 0
              have k1 : wx.cell? ⟨bx, 1, none⟩ = some (.int .u8 f) := (HBX.out.ext HX.out.2).cell 1
              have k2 : wx.cell? ⟨bx, 2, none⟩ = some (.int .u8 b) := (HBX.out.ext HX.out.2).cell 2
              have k3 : wx.cell? ⟨bx, 3, none⟩ = some (.int .u8 a) := (HBX.out.ext HX.out.2).cell 3
              go_wp2_with fail
              refine (RefPut_ints [(n : Int) - 1, r, f, b, a] _ _ (ints_new wx [(n : Int) - 1, r, f, b, a] 3 HP.out.2.2.1) (by decide : [(1 : Int), 1, 1, 1, 1].length ≤ 1000)).mono ?_
              rintro e w5 ⟨rfl, hx5⟩
              have hpl : (putN [(n : Int) - 1, r, f, b, a]).length ≤ 50 := putN_len _ HP.out.2.2.1
              have hbp := byte_put pre n ⟨r, f, b, a⟩
              simp only at hbp
              have hcat : (⟨(runsB pre).toArray⟩ : ByteArray) ++ ⟨(putN [(n : Int) - 1, r, f, b, a]).toArray⟩ = ⟨(runsB (pre ++ [(n, ⟨r, f, b, a⟩)])).toArray⟩ := by rw [mk_append, hbp]
              have hz1 : (⟨(runsB pre).toArray⟩ : ByteArray).size ≤ 50000 := by
                rw [size_mk]
                have hrl := runsB_len (runsL l) (fun x hx => ⟨H.out.1.all _ (runs_mem l.length l (Nat.le_refl _) x hx).1, (runs_mem l.length l (Nat.le_refl _) x hx).2.1, by have := (runs_mem l.length l (Nat.le_refl _) x hx).2.2; have := H.out.2.1; have := H.out.2.2.2; omega⟩)
                have hrl2 := runs_len l.length l (Nat.le_refl _)
                rw [← HI.out.2.2.2.1, runsB_append, List.length_append] at hrl
                rw [← HI.out.2.2.2.1] at hrl2
                have := H.out.2.1
                have := H.out.2.2.2
                omega
              have hz2 : (⟨(putN [(n : Int) - 1, r, f, b, a]).toArray⟩ : ByteArray).size ≤ 50 := by rw [size_mk]; omega
              have H5 := Lib.hid (And.intro (((HX.out.1.trans ((Ext.refl wx).alloc _))).trans hx5) hcat); clear hx5 hpl hbp hcat
              generalize (⟨(runsB pre).toArray⟩ : ByteArray) = S at hz1 H5 ⊢
              generalize (⟨(putN [(n : Int) - 1, r, f, b, a]).toArray⟩ : ByteArray) = P at hz2 H5 ⊢
              clear k0 k1 k2 k3
              go_wp2
              go_roundg (go - 1)
              case measure => have := HGO.out; have := HI.out.1; have := HQV.out; omega
              case rel =>
                refine ⟨q, pre ++ [(n, ⟨r, f, b, a⟩)], rfl, by rw [H5.out.2], ?_, HP.out.2.2.2, HP.out.1, HP.out.2.1, H5.out.1⟩
                have := HGO.out; have := HI.out.1; have := HP.out.2.2.2; have := HQV.out; omega
      · have hd : l.drop i = [] := List.drop_eq_nil_of_le (by rw [H.out.2.1]; omega)
        have hf : pre = runsL l := by
          have := hin.out.2.2.2.1
          rw [hd] at this
          simpa [runsL_nil] using this
        have HF := Lib.hid hf; clear hf hd
        go_wp2_with fail
        go_ret
        exact ⟨by rw [HB.out]; rw [HF.out]; rfl, hin.out.2.2.2.2⟩
end Go.Proofs.YtcmllaeihnmkkaaDoor
namespace Go.Proofs.YtcmllaeihnmkkaaDoor
open Go Go.RowKit

theorem awake_bytes : bytesL [Cel.blank, Cel.blank, Cel.blank] = [4, 64, 0, 0, 0] := by
  have h1 : rightL [Cel.blank, Cel.blank, Cel.blank] = true := by decide
  have h2 : runsL [Cel.blank, Cel.blank, Cel.blank] = [(3, Cel.blank)] := by decide
  have e1 : encN 4 = [4] := encN_small (by decide)
  have e2 : encN 64 = [64] := encN_small (by decide)
  have e3 : encN 0 = [0] := encN_small (by decide)
  unfold bytesL
  rw [if_pos h1, h2]
  show encN 4 ++ (encN 64 ++ (encN 0 ++ (encN 0 ++ (encN 0 ++ [])))) ++ [] = _
  rw [e1, e2, e3]; rfl
theorem blank_ok : Cel.blank.ok := by unfold Cel.ok Cel.blank isI32 isU8; simp only; omega
set_option maxHeartbeats 1000000 in
set_option maxRecDepth 100000 in
theorem awakeC_true (w : World) (hS : Spans w) : Calls Tryd.prog 11 #[] w fun e w' => e = .returned (.bool true) ∧ Ext w w' := by
  go_enter Tryd.func11, Tryd.ntmps11
  go_wp2_with fail
  refine (Blank_of _).mono ?_
  rintro e w1 ⟨rfl, hx⟩
  have H1 := Lib.hid (And.intro hS hx); clear hS hx
  dsimp only [Cel.val, Cel.blank]
  go_wp2_with fail
  have hown := OwnC.new (w1.alloc (.cells #[.int .i32 32, .int .u8 0, .int .u8 0, .int .u8 0] 57)) [Cel.blank, Cel.blank, Cel.blank] (by decide)
  rw [World.size_alloc] at hown
  have hx2 := (Ext.refl w1).alloc (.cells #[.int .i32 32, .int .u8 0, .int .u8 0, .int .u8 0] 57)
  have hx3 := hx2.trans ((Ext.refl _).alloc (.cells (cellsC [Cel.blank, Cel.blank, Cel.blank]).toArray 57))
  have hok : ∀ x, x ∈ [Cel.blank, Cel.blank, Cel.blank] → x.ok := fun x hx => by
    have : x = Cel.blank := by simpa using hx
    rw [this]; exact blank_ok
  refine (BytesC_of [Cel.blank, Cel.blank, Cel.blank] _ _ (hown.isCells hok) ((H1.out.1.ext H1.out.2).ext hx3) (by decide)).mono ?_
  rintro e w4 ⟨rfl, hx4⟩
  rw [awake_bytes]
  have H4 := Lib.hid (H1.out.2.trans (hx3.trans hx4)); clear hx4 hx3 hx2 hown
  go_wp2
  go_ret
  exact ⟨rfl, H4.out⟩
end Go.Proofs.YtcmllaeihnmkkaaDoor
namespace Go.Proofs.YtcmllaeihnmkkaaDoor
open Go Go.RowKit

/-- What an append of characters leaves. -/
structure Appended (base : Nat) (v : Value) (W : World) (l : List Int) (v' : Value) (w' : World) : Prop where
  own : OwnR w' base v' l
  grown : W.grownBy w' v.ownBlock
section
variable {W : World} {ops : Array Oper} {rest : List Oper} {o : Oper} {a : Act} {Q : Exit → Act → World → Prop}
theorem wpList_app_rune (hgd : o.guard = none) (s x : Operand) (ho : o.op = .call { callee := .builtin .append, args := #[s, x], argTypes := #[188, 188] })
    (base : Nat) (v : Value) (out : List Int) (hs : a.eval s = v) (hown : OwnR W base v out) (G : Nat) (r : Int) (hx : a.eval x = .slice (some ⟨G, 0, none⟩) 1 1) (hcell : W.cell? ⟨G, 0, none⟩ = some (.int .i32 r))
    (hlen : out.length ≤ 2000000) (hbase : base ≤ W.heap.size) (h : ∀ v' w', Appended base v W (out ++ [r]) v' w' → wpList Tryd.prog ops Q rest (a.put o.dst v') w') : wpList Tryd.prog ops Q (o :: rest) a W := by
  obtain ⟨i0, hi0, hz0, hz1, hz2⟩ := info_parts infoRune
  refine wpList_append_own_at W hgd s x 188 ho base 21 i0 _ 1 4 Tryd.underlying188 hi0 hz0 hz1 hz2 rfl (by omega) v out.length (cellsR out) hs hown ⟨G, 0, none⟩ 1 1 [.int .i32 r] hx rfl ?_ (fun y hy => by rw [List.mem_singleton.1 hy]; rfl) (by unfold maxLen; omega) (by omega) hbase ?_
  · intro j u hj
    have hj0 : j = 0 := by
      have := (List.getElem?_eq_some_iff.1 hj).1
      simp at this; omega
    subst hj0
    rw [add_off, hcell]
    simpa using hj
  · intro v' w' h1 h2 _ _
    exact h v' w' ⟨OwnR.more (m := [r]) h1, h2⟩
theorem wpList_app_runes (hgd : o.guard = none) (s x : Operand) (ho : o.op = .call { callee := .builtin .append, args := #[s, x], argTypes := #[188, 188] })
    (base : Nat) (v : Value) (out : List Int) (hs : a.eval s = v) (hown : OwnR W base v out) (base2 : Nat) (x' : Value) (l : List Int) (hx : a.eval x = x') (hown2 : OwnR W base2 x' l)
    (hlen : out.length ≤ 2000000) (hlen2 : l.length ≤ 2000000) (hbase : base ≤ W.heap.size) (h : ∀ v' w', Appended base v W (out ++ l) v' w' → wpList Tryd.prog ops Q rest (a.put o.dst v') w') : wpList Tryd.prog ops Q (o :: rest) a W := by
  obtain ⟨i0, hi0, hz0, hz1, hz2⟩ := info_parts infoRune
  obtain ⟨A, c, rfl, hc⟩ := hown2.form
  have hat := hown2.at
  exact wpList_append_opt hgd s x 188 ho base 21 i0 _ 1 4 Tryd.underlying188 hi0 hz0 hz1 hz2 rfl (by omega) v out.length (cellsR out) hs hown A l.length c (cellsR l) hx hc (by rw [cellsR_len, Nat.mul_one]) hat (cellsR_one l) (by unfold maxLen; omega) (by omega) hbase
    fun v' w' h1 h2 => h v' w' ⟨OwnR.more h1, h2⟩
end
end Go.Proofs.YtcmllaeihnmkkaaDoor
