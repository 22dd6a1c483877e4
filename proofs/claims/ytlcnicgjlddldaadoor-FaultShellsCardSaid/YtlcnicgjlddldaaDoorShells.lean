/- The law FaultShells, walked. -/
import Derived.Test.YtlcnicgjlddldaaDoorTold
import Derived.Deep.RegionHeld3
import Derived.Deep.CutRange
namespace Go.Proofs.YtlcnicgjlddldaaDoor
open Go Go.RowKit

theorem path_len {w : World} {t : Tr} {v : Value} (h : RepO w (some t) v) : t.path.length ≤ t.text.length := by
  have h1 := join_le t.spine
  have h2 := (Rep.spineLen h).2
  exact Nat.le_trans h1 h2
theorem shell_len (p : Int) (s : ByteArray) (t : Tr) (hp : -9223372036854775808 ≤ p ∧ p ≤ 9223372036854775807) (hs : s.size ≤ 8) : tlen (some (shell p s t)) ≤ tlen (some t) + 36 := by
  have h1 := tlen_word s hs (some (.place p t))
  have h2 := tlen_place p hp.1 hp.2 (some t)
  show tlen ((some (Tr.place p t)).map (Tr.word s)) ≤ _
  have h3 : tlen ((some t).map (Tr.place p)) = tlen (some (Tr.place p t)) := rfl
  omega
def SH (w7 : World) (B g i : Nat) (qc : Int) (v : Value) (W : World) : Prop := W.cell? ⟨B, 1, none⟩ = some (.int .i64 qc) ∧ W.cell? ⟨g, i, none⟩ = some v ∧ Ext w7 W
theorem SH.ext {w7 : World} {B g i : Nat} {qc : Int} {v : Value} {W W' : World} (h : SH w7 B g i qc v W) (hx : Ext W W') : SH w7 B g i qc v W' := ⟨hx.cell h.1, hx.cell h.2.1, h.2.2.trans hx⟩
theorem sh_code (w7 : World) (B g i : Nat) (qc : Int) (v ve : Value) (u : Option Tr) (hg : ErrType w7) (h : RepO w7 u ve) : ∀ W, SH w7 B g i qc v W → Calls Tryd.prog 15 #[ve] W fun e w' => e = .returned (.int .i64 (codeU u)) ∧ SH w7 B g i qc v w' := by
  intro W hW
  refine (Code_O u ve W (hg.ext hW.2.2) (RepO.ext hW.2.2 h)).mono ?_
  rintro e w' ⟨rfl, hx⟩
  exact ⟨rfl, hW.ext hx⟩
theorem sh_is (w7 : World) (B g i : Nat) (qc : Int) (v ve : Value) (p : Int) (s : ByteArray) (t : Tr) (he : RepO w7 (some (shell p s t)) ve) (hv : RepO w7 (some t) v) : ∀ y, (y = ve ∨ y = v) → ∀ W, SH w7 B g i qc v W → Calls Tryd.prog 21 #[y, .int .i64 qc] W fun e w' => e = .returned (.bool (hasU qc (some t))) ∧ SH w7 B g i qc v w' := by
  rintro y hy W hW
  rcases hy with rfl | rfl
  · refine (Is_O _ _ qc W (RepO.ext hW.2.2 he)).mono ?_
    rintro e w' ⟨rfl, hx⟩
    exact ⟨by rw [show hasU qc (some (shell p s t)) = hasU qc (some t) from shell_has p s t qc], hW.ext hx⟩
  · refine (Is_O _ _ qc W (RepO.ext hW.2.2 hv)).mono ?_
    rintro e w' ⟨rfl, hx⟩
    exact ⟨rfl, hW.ext hx⟩
theorem sh_is0 (w7 : World) (B g i : Nat) (qc : Int) : ∀ W, SH w7 B g i qc .nilIface W → Calls Tryd.prog 21 #[.nilIface, .int .i64 qc] W fun e w' => e = .returned (.bool (hasU qc none)) ∧ SH w7 B g i qc .nilIface w' := by
  intro W hW
  refine (Is_O none .nilIface qc W rfl).mono ?_
  rintro e w' ⟨rfl, hx⟩
  exact ⟨rfl, hW.ext hx⟩
theorem ext_drew_iff' (a w : World) : Ext a w.drew ↔ Ext a w := ⟨fun h => ⟨h.os, h.tape, h.output, h.size, h.block⟩, Ext.drew⟩
attribute [local simp] ext_drew_iff'
set_option maxHeartbeats 4000000 in
set_option maxRecDepth 100000 in
theorem shells_true (x : Value) (place : Int) (qw : ByteArray) (qc : Int) (w : World) (hx : IsScript w x) (hp : Pow10 w) (hg : ErrType w) (hs : qw.size ≤ 9223372036854775807) (hpl : -9223372036854775808 ≤ place ∧ place ≤ 9223372036854775807) :
    Calls Tryd.prog 4 #[x, .int .i64 place, .agg #[.string qw, .int .i64 qc]] w fun e w' => e = .returned (.bool true) ∧ Ext w w' := by
  have HS := Lib.hid (And.intro hp (And.intro hg (And.intro hx hpl))); clear hp hg hx hpl
  go_enter Tryd.func4, Tryd.ntmps4
  go_wp2_with fail
  have hx0 : Ext w (w.alloc (.cells #[.string qw, .int .i64 qc] 46)) := (Ext.refl w).alloc _
  have q0 : (w.alloc (.cells #[.string qw, .int .i64 qc] 46)).cell? ⟨w.heap.size, 0, none⟩ = some (.string qw) := by rw [Lib.cell_of_heap (Go.heap_alloc_new _ _)]; rfl
  have q1 : (w.alloc (.cells #[.string qw, .int .i64 qc] 46)).cell? ⟨w.heap.size, 1, none⟩ = some (.int .i64 qc) := by rw [Lib.cell_of_heap (Go.heap_alloc_new _ _)]; rfl
  generalize w.alloc (.cells #[.string qw, .int .i64 qc] 46) = wA at hx0 q0 q1 ⊢
  generalize w.heap.size = B at q0 q1 ⊢
  refine (awake_true _ (HS.out.1.ext hx0)).mono ?_
  rintro e w1 ⟨rfl, hx1⟩
  have HX1 := Lib.hid (And.intro (hx0.trans hx1) (And.intro (hx1.cell q0) (hx1.cell q1))); clear hx0 hx1 q0 q1
  go_wp2_with fail
  refine (built_any x w1 (HS.out.2.2.1.ext HX1.out.1)).mono ?_
  rintro e w2 ⟨ga, ca, gb, cb, us, vs, cs, rfl, HB⟩
  have hx2 : Ext w1 w2 := HB.out.piles.below
  have q0 := hx2.cell HX1.out.2.1
  have q1 := hx2.cell HX1.out.2.2
  have HX2 := Lib.hid (And.intro (HX1.out.1.trans hx2) (And.intro q0 q1)); clear hx2
  go_upto_if 29 with fail
  go_cut [10] from 28 to 31 (fun wd wx => ∃ s : ByteArray, wd = .string s ∧ s.size ≤ 8 ∧ wx = w2)
  case first =>
    by_cases hw8 : qw.size > 8
    · go_wp2_with fail
      go_meet
      case rel => exact ⟨_, rfl, extract8 qw, rfl⟩
    · go_wp2_with fail
      go_meet
      case rel => exact ⟨_, rfl, by omega, rfl⟩
  case rest =>
    obtain ⟨s, rfl, hs8, hwc⟩ := hcut
    have hwx := hwc.symm
    subst hwx
    clear q0 q1 hs
    have hul : us.length ≤ 30 := HB.out.len
    go_wp2_with fail
    go_loopg [11] us.length (fun k c wr => ∃ i : Nat, Hid (i + k = us.length) ∧ c = .int .i64 i ∧ Hid (Ext w2 wr))
    case atStart => exact ⟨0, Nat.zero_add _, rfl, Ext.refl _⟩
    case round =>
      obtain ⟨i, hi, rfl, hwr⟩ := hrel
      by_cases hlt : i < us.length
      · obtain ⟨u, hu⟩ : ∃ u, us[i]? = some u := ⟨us[i], List.getElem?_eq_getElem hlt⟩
        obtain ⟨g0, rfl⟩ := own_some HB.out.piles.owna (by omega)
        obtain ⟨v, hv1, hv2⟩ := HB.out.piles.repa i u hu
        have ka : w2.cell? ⟨g0, i, none⟩ = some v := by rw [HB.out.piles.owna.cellAt i (by omega)]; exact hv1
        have kr := hwr.out.cell ka
        have hgood := HB.out.good.at hu
        have htl : tlen u ≤ 2000 := by have := tlen_le hu; have := HB.out.text; omega
        have HV := Lib.hid (And.intro hv2 (And.intro ka (And.intro hgood htl))); clear hu hv1 hv2 ka hgood htl
        rcases u with _ | t
        · obtain rfl : v = .nilIface := HV.out.1
          go_wp2_with fail
          refine (at_nil _ wr).mono ?_
          rintro e w3 ⟨rfl, rfl⟩
          go_wp2_with fail
          refine (in_nil _ _).mono ?_
          rintro e w4 ⟨rfl, rfl⟩
          go_wp2_with fail
          refine (Code_nil _).mono ?_
          rintro e w5 ⟨rfl, hx5⟩
          have k5 := hx5.cell kr
          have HE5 := Lib.hid (hwr.out.trans hx5); clear hx5 kr
          go_wp2_with fail
          refine (Place_O none .nilIface w5 rfl).mono ?_
          rintro e w6 ⟨rfl, hx6⟩
          rw [show sumU none = 0 from rfl, show placedU none = false from rfl]
          have HE6 := Lib.hid (HE5.out.trans hx6); clear hx6 k5
          go_wp2_with fail
          refine (Place_O none .nilIface w6 rfl).mono ?_
          rintro e w7 ⟨rfl, hx7⟩
          rw [show sumU none = 0 from rfl, show placedU none = false from rfl]
          have hE7 : Ext w2 w7 := HE6.out.trans hx7
          have k7 := hE7.cell HV.out.2.1
          have q7 := hE7.cell HX2.out.2.2
          have HE7 := Lib.hid hE7; clear hE7 hx7
          have FC := Lib.hid (sh_code w7 B g0 i qc .nilIface .nilIface none ((HS.out.2.1.ext HX2.out.1).ext HE7.out) rfl)
          have FI := Lib.hid (sh_is0 w7 B g0 i qc)
          rw [show codeU none = 0 from rfl] at FC
          generalize hasU qc none = h at FI
          have E7 : Ext w7 w7 := Ext.refl w7
          go_wp2_with fail
          go_region_held3 (fun w' => w'.cell? ⟨B, 1, none⟩ = some (.int .i64 qc) ∧ w'.cell? ⟨g0, i, none⟩ = some .nilIface ∧ Ext w7 w')
            (first | exact gS | go_keep)
            (first
              | (go_at_call 15; refine (FC.out _ (by first | exact gS | assumption)).mono ?_; rintro e wn ⟨rfl, gS⟩)
              | (go_at_call 21; refine (FI.out _ (by first | exact gS | assumption)).mono ?_; rintro e wn ⟨rfl, gS⟩))
          have HEN := Lib.hid (HE7.out.trans gS.2.2)
          clear E7 k7 q7 FC FI gS
          go_wp2_with fail
          refine (Text_O none .nilIface _ rfl ((HS.out.1.ext HX2.out.1).ext HEN.out) (by decide)).mono ?_
          rintro e w8 ⟨rfl, hx8⟩
          have HE8 := Lib.hid (HEN.out.trans hx8); clear hx8
          go_wp2
          go_roundg (gk - 1)
          case measure => have := hi.out; omega
          case rel =>
            refine ⟨i + 1, ?_, by go_num, HE8.out⟩
            show i + 1 + (gk - 1) = us.length
            have := hi.out; omega
        · have hvr : RepS (Own (.slice (some ⟨g0, 0, none⟩) us.length ca) (.slice gb us.length cb)) wr t v := RepS.ext hwr.out HV.out.1
          have HVR := Lib.hid hvr; clear hvr
          go_wp2_with fail
          refine (At_someS (Own (.slice (some ⟨g0, 0, none⟩) us.length ca) (.slice gb us.length cb)) t v place wr HVR.out HS.out.2.2.2.1 HS.out.2.2.2.2).mono ?_
          rintro e w3 ⟨ty, y, rfl, hy, hx3⟩
          have HY := Lib.hid hy; clear hy
          go_wp2_with fail
          refine (In_someS (Own (.slice (some ⟨g0, 0, none⟩) us.length ca) (.slice gb us.length cb)) (.place place t) (.iface ty y) s w3 HY.out).mono ?_
          rintro e w4 ⟨tz, z, rfl, hz, hx4⟩
          have hE4 : Ext w2 w4 := (hwr.out.trans hx3).trans hx4
          have hve : RepO w4 (some (shell place s t)) (.iface tz z) := RepS.rep hz
          have hv4 : RepO w4 (some t) v := RepS.rep (RepS.ext hE4 HV.out.1)
          have HE4 := Lib.hid (And.intro hve (And.intro hv4 hE4)); clear hve hv4 hE4 hz hx3 hx4 HY HVR kr
          have k4 := HE4.out.2.2.cell HV.out.2.1
          go_wp2_with fail
          refine (Code_O (some t) v w4 ((HS.out.2.1.ext HX2.out.1).ext HE4.out.2.2) HE4.out.2.1).mono ?_
          rintro e w5 ⟨rfl, hx5⟩
          have k5 := hx5.cell k4
          clear k4
          go_wp2_with fail
          refine (Place_O (some t) v w5 (RepO.ext hx5 HE4.out.2.1)).mono ?_
          rintro e w6 ⟨rfl, hx6⟩
          clear k5
          go_wp2_with fail
          refine (Place_O (some (shell place s t)) (.iface tz z) w6 (RepO.ext (hx5.trans hx6) HE4.out.1)).mono ?_
          rintro e w7 ⟨rfl, hx7⟩
          have hE7 : Ext w4 w7 := (hx5.trans hx6).trans hx7
          have k7 := hE7.cell (HE4.out.2.2.cell HV.out.2.1)
          have q7 := (HE4.out.2.2.trans hE7).cell HX2.out.2.2
          have HE7 := Lib.hid hE7; clear hE7 hx5 hx6 hx7
          rw [show placedU (some (shell place s t)) = true from shell_placed place s t, show sumU (some (shell place s t)) = wrap64 (sumU (some t) + place) from shell_sum place s t]
          have hgt : t.good := HV.out.2.2.1 t rfl
          have FC := Lib.hid (sh_code w7 B g0 i qc v (.iface tz z) (some (shell place s t)) ((HS.out.2.1.ext HX2.out.1).ext (HE4.out.2.2.trans HE7.out)) (RepO.ext HE7.out HE4.out.1))
          have FI := Lib.hid (sh_is w7 B g0 i qc v (.iface tz z) place s t (RepO.ext HE7.out HE4.out.1) (RepO.ext HE7.out HE4.out.2.1))
          rw [show codeU (some (shell place s t)) = codeU (some t) from shell_code place s t] at FC
          have hc0 : codeU (some t) ≠ 0 := good_code_ne hgt
          have HG := Lib.hid (And.intro hgt hc0); clear hgt
          generalize hcc : codeU (some t) = c at FC hc0 ⊢
          generalize hhh : hasU qc (some t) = h at FI
          have HC := Lib.hid (And.intro hcc hhh); clear hcc hhh
          have E7 : Ext w7 w7 := Ext.refl w7
          go_wp2_with fail
          go_region_held3 (fun w' => w'.cell? ⟨B, 1, none⟩ = some (.int .i64 qc) ∧ w'.cell? ⟨g0, i, none⟩ = some v ∧ Ext w7 w')
            (first | exact gS | go_keep)
            (first
              | (go_at_call 15; refine (FC.out _ (by first | exact gS | assumption)).mono ?_; rintro e wn ⟨rfl, gS⟩)
              | (go_at_call 21; refine (FI.out _ (by first | exact .inl rfl | exact .inr rfl) _ (by first | exact gS | assumption)).mono ?_; rintro e wn ⟨rfl, gS⟩))
          have hcb : (c == 0) = false := by simpa using hc0
          have kn := gS.2.1
          have hEn := gS.2.2
          have HEN := Lib.hid (And.intro (HE7.out.trans hEn) gS); clear hEn E7 k7 q7 FC FI hc0 gS
          have htl : tlen (some t) ≤ 1000000 := by have := HV.out.2.2.2; omega
          go_wp2_with fail
          refine (Path_O (some t) v wn (RepO.ext HEN.out.1 HE4.out.2.1) htl).mono ?_
          rintro e w8 ⟨rfl, hx8⟩
          have kq := hx8.cell kn
          have HE8 := Lib.hid (HEN.out.1.trans hx8); clear kn hx8
          have HTL := Lib.hid htl; clear htl
          have hpa : t.path ≠ [] → (shell place s t).path = s.data.toList ++ [47] ++ t.path := shell_path place s t
          have HPA := Lib.hid hpa; clear hpa
          rw [show pathU (some t) = t.path from rfl]
          have hsn : placedU (some t) = false → sumU (some t) = 0 := sum_none t
          generalize sumU (some t) = n at hsn ⊢
          generalize placedU (some t) = b at hsn ⊢
          by_cases hP : t.path = []
          · have hPp : (⟨t.path.toArray⟩ : ByteArray) = ⟨#[]⟩ := by rw [hP]
            rw [hPp]
            have HPP := Lib.hid hPp; clear hPp hP
            cases b
            all_goals
              first
                | (obtain rfl : n = 0 := hsn rfl)
                | skip
              clear hsn
              go_wp2_with fail
              refine (Path_O (some t) v w8 (RepO.ext HE8.out HE4.out.2.1) HTL.out).mono ?_
              rintro e w9 ⟨rfl, hx9⟩
              rw [show pathU (some t) = t.path from rfl, HPP.out]
              have HE9 := Lib.hid (HE8.out.trans hx9); clear hx9 kq
              go_wp2_with fail
              refine (Is_O (some (shell place s t)) (.iface tz z) c _ (RepO.ext HE9.out HE4.out.1)).mono ?_
              rintro e wb ⟨rfl, hxb⟩
              have HEB := Lib.hid (HE9.out.trans hxb); clear hxb
              rw [show hasU c (some (shell place s t)) = true from (shell_has place s t c).trans (by rw [← HC.out.1]; exact good_has HG.out.1)]
              go_wp2_with fail
              refine (Is_O (some (shell place s t)) (.iface tz z) 0 _ (RepO.ext HEB.out HE4.out.1)).mono ?_
              rintro e wc ⟨rfl, hxc⟩
              have HEC := Lib.hid (HEB.out.trans hxc); clear hxc
              rw [show hasU 0 (some (shell place s t)) = false from (shell_has place s t 0).trans (good_zero HG.out.1)]
              go_wp2
              go_roundg (gk - 1)
              case measure => have := hi.out; omega
              case rel =>
                refine ⟨i + 1, ?_, by go_num, HE4.out.2.2.trans HEC.out⟩
                show i + 1 + (gk - 1) = us.length
                have := hi.out; omega
          · have hPe : t.path.isEmpty = false := by simpa using hP
            have hpz : ¬ 9223372036854775807 < s.size + 1 + t.path.length := by
              have h1 := path_len HE4.out.2.1
              have h2 : t.text.length ≤ 1000000 := HTL.out
              omega
            have hpz2 : (⟨t.path.toArray⟩ : ByteArray).size ≤ 1000000 := by
              have h1 := path_len HE4.out.2.1
              have h2 : t.text.length ≤ 1000000 := HTL.out
              rw [show (⟨t.path.toArray⟩ : ByteArray).size = t.path.length from by simp [ByteArray.size]]
              omega
            have hpe : (⟨(shell place s t).path.toArray⟩ : ByteArray) = s ++ ⟨#[47]⟩ ++ ⟨t.path.toArray⟩ := by
              rw [HPA.out hP]
              apply ByteArray.ext
              rw [ByteArray.data_append, ByteArray.data_append]
              apply Array.toList_inj.1
              simp
            have HPP := Lib.hid (And.intro hpe hP); clear hpe hP
            go_wp2_with fail
            refine (Path_O (some t) v w8 (RepO.ext HE8.out HE4.out.2.1) HTL.out).mono ?_
            rintro e w9 ⟨rfl, hx9⟩
            rw [show pathU (some t) = t.path from rfl]
            have k9 := hx9.cell kq
            have HE9 := Lib.hid (HE8.out.trans hx9); clear hx9 kq
            cases b
            all_goals
              first
                | (obtain rfl : n = 0 := hsn rfl)
                | skip
              clear hsn
              go_wp2_with fail
              refine (Path_O (some t) v w9 (RepO.ext HE9.out HE4.out.2.1) HTL.out).mono ?_
              rintro e w10 ⟨rfl, hx10⟩
              rw [show pathU (some t) = t.path from rfl]
              have HE10 := Lib.hid (HE9.out.trans hx10); clear hx10 k9
              go_wp2_with fail
              refine (Path_O (some (shell place s t)) (.iface tz z) _ (RepO.ext HE10.out HE4.out.1) (by have := shell_len place s t HS.out.2.2.2 hs8; have := HV.out.2.2.2; omega)).mono ?_
              rintro e w11 ⟨rfl, hx11⟩
              rw [show pathU (some (shell place s t)) = (shell place s t).path from rfl, HPP.out.1]
              have HE11 := Lib.hid (HE10.out.trans hx11); clear hx11
              go_wp2_with fail
              refine (Is_O (some (shell place s t)) (.iface tz z) c _ (RepO.ext HE11.out HE4.out.1)).mono ?_
              rintro e wb ⟨rfl, hxb⟩
              have HEB := Lib.hid (HE11.out.trans hxb); clear hxb
              rw [show hasU c (some (shell place s t)) = true from (shell_has place s t c).trans (by rw [← HC.out.1]; exact good_has HG.out.1)]
              go_wp2_with fail
              refine (Is_O (some (shell place s t)) (.iface tz z) 0 _ (RepO.ext HEB.out HE4.out.1)).mono ?_
              rintro e wc ⟨rfl, hxc⟩
              have HEC := Lib.hid (HEB.out.trans hxc); clear hxc
              rw [show hasU 0 (some (shell place s t)) = false from (shell_has place s t 0).trans (good_zero HG.out.1)]
              go_wp2
              go_roundg (gk - 1)
              case measure => have := hi.out; omega
              case rel =>
                refine ⟨i + 1, ?_, by go_num, HE4.out.2.2.trans HEC.out⟩
                show i + 1 + (gk - 1) = us.length
                have := hi.out; omega
      · go_wp2
        go_ret
        exact ⟨rfl, HX2.out.1.trans hwr.out⟩
end Go.Proofs.YtlcnicgjlddldaaDoor
