/- One step of the piles: a place is put around. -/
import Derived.Test.YtlcnicgjlddldaaDoorBuiltS
namespace Go.Proofs.YtlcnicgjlddldaaDoor
open Go Go.RowKit

set_option maxHeartbeats 16000000 in
set_option maxRecDepth 100000 in
theorem built_place : built_split.1 := by
  intro os g off cap w i0 j0 HO HI HJ zQ1 zK2 za3 gk wr u7 u8 u9 u10 u11 u12 u13 u14 u15 u16 u17 u18 u19 u20 u21 u22 u23 u24 u25 u26 u27 u28 u29 u30 u31 u32 zu334 zu345 zu356 zu367 zu378 zu389 zu3910 zu4011 zu4112 zu4213 zu4314 zu4415 u45 u46 u47 u48 u49 u50 u51 u52 u53 u54 u55 u56 u57 u58 u59 u60 u61 u62 u63 u64 u65 u66 u67 u68 u69 u70 u71 u72 u73 u74 u75 u76 u77 u78 u79 u80 u81 u82 u83 u84 u85 u86 u87 u88 u89 u90 u91 u92 u93 u94 u95 u96 u97 u98 u99 u100 u101 u102 u103 u104 u105 u106 u107 u108 u109 u110 u111 u112 u113 u114 u115 u116 u117 u118 u119 u120 u121 u122 u123 u124 u125 u126 u127 u128 u129 u130 u131 u132 u133 u134 u135 u136 u137 u138 u139 u140 zJ16 zK17 za18 za19 i us vs cs HK hi1 hi2 ga ca gb cb hul hu30 hlt hlt2 kind code place word far HH zh20 zK21 za22 u33 u34 u35 u36 u37 s hs8 zK23 za24 u38 u39 u40 u41 u42 u43 u44 c hcr HL hpl wx q HP HQ m0 m1 m2 kk hb7 hb0 hb8 hk
  rcases Nat.eq_zero_or_pos us.length with hu0 | hup
  · have hu1 : us = [] := List.eq_nil_of_length_eq_zero hu0
    subst hu1
    have hn1 : ((([] : List (Option Tr)).length : Nat) : Int) - 1 = -1 := rfl
    rw [hn1]
    rcases hk with hk | hk
    all_goals
      subst hk
      go_wp2
      go_roundg (gk - 1)
      case measure => have := HK.out; omega
      case rel => exact ⟨i + 1, [], _, _, by have := HK.out; omega, by go_num, HP.out, by simp, by simp [tsum], Goods.nil⟩
  · obtain ⟨n, hun⟩ : ∃ n, us.length = n + 1 := ⟨us.length - 1, by omega⟩
    have hn1 : ((us.length : Int) - 1) = (n : Int) := by omega
    rw [hn1]
    obtain ⟨g0, cz, e0, _, _⟩ := HP.out.owna.form hup
    injection e0 with e0 _ ez
    subst e0 ez
    obtain ⟨g1, cz1, e1, _, _⟩ := HP.out.ownb.form hup
    injection e1 with e1 _ ez1
    subst e1 ez1
    obtain ⟨u, hu⟩ : ∃ u, us[n]? = some u := ⟨us[n], List.getElem?_eq_getElem (by omega)⟩
    have HU := Lib.hid hu
    obtain ⟨v, hv1, hv2⟩ := HP.out.repa n u hu
    clear hu
    have hnl : n < us.length := by omega
    have ka : wx.cell? ⟨g0, n, none⟩ = some v := by rw [HP.out.owna.cellAt n (by omega)]; exact hv1
    have HV := Lib.hid hv2; clear hv1 hv2
    have HN1 := Lib.hid (And.intro hn1 hun); clear hn1 hun
    go_upto_if 58 with fail
    go_cut [58] from 14 to 140 (fun tv w' => tv = .bool true ∧ w' = wx)
    case first =>
      rcases hk with hk | hk
      all_goals
        subst hk
        go_wp2_with fail
        go_meet
        case rel => exact ⟨rfl, rfl⟩
    case rest =>
      obtain ⟨rfl, hwc⟩ := hcut
      have hwx := hwc.symm
      subst hwx
      go_upto_region 20 with fail
      go_cut [4] from 14 to 140 (fun a' w' => ∃ v', a' = .slice (some ⟨g0, 0, none⟩) us.length ca ∧ Hid (Piles w w' a' (.slice (some ⟨g1, 0, none⟩) us.length cb) (us.set n (u.map (.place place))) us (vs.set n v') cs ∧ w'.heap[q]? = some (.cells #[.int .i64 kind, .int .i64 code, .int .i64 place, .string word, .bool far] 66 (0, 0))))
      case first =>
        cases u with
        | none =>
          obtain rfl : v = .nilIface := HV.out
          have fa : wx.drew.frozen? ⟨g0, n, none⟩ = false := HP.out.owna.frozenAt n
          have fc : wx.drew.cell? ⟨g0, n, none⟩ = some .nilIface := ka
          go_region_with (go_at_call 24; refine (at_nil _ _).mono ?_; rintro e w3 ⟨rfl, rfl⟩)
          all_goals (go_wp2_with fail; go_meet)
          all_goals (case rel => exact ⟨_, rfl, mid_setA HP.out (Ext.refl wx).drew HQ.out.1 HQ.out.2.1 rfl⟩)
        | some t =>
          go_region_with (go_at_call 24; refine (At_someS (Own (.slice (some ⟨g0, 0, none⟩) us.length ca) (.slice (some ⟨g1, 0, none⟩) us.length cb)) t v place _ (RepS.ext (w := wx) (Ext.refl wx).drew HV.out) hpl.1 hpl.2).mono ?_; rintro e w3 ⟨ty, x, rfl, hv, hx3⟩; have HV3 := Lib.hid (And.intro hv hx3); have fa : w3.frozen? ⟨g0, n, none⟩ = false := (ownsRow_ext hx3 (World.ownsRow.drew HP.out.owna)).frozenAt n; have fc : w3.cell? ⟨g0, n, none⟩ = some v := Ext.cell hx3 ka; clear hv hx3)
          all_goals (go_wp2_with fail; go_meet)
          all_goals (case rel => exact ⟨_, rfl, mid_setA HP.out ((Ext.refl wx).drew.trans HV3.out.2) HQ.out.1 HQ.out.2.1 HV3.out.1⟩)
      case rest =>
        obtain ⟨v', rfl, HM⟩ := hcut
        clear ka
        obtain ⟨z1, z2, z3, z4, z5, z6, z7, hz, c0, c1, c2, c3, c4⟩ := HM.out.1.fiveB rfl HU.out
        have HZ := Lib.hid hz; clear hz
        have mq : wc.cell? ⟨q, 2, none⟩ = some (.int .i64 place) := by rw [Lib.cell_of_heap HM.out.2]; rfl
        go_upto_region 21 with fail
        go_region_with (go_at_call 34; refine (refAt_form (Own (.slice (some ⟨g0, 0, none⟩) us.length ca) (.slice (some ⟨g1, 0, none⟩) us.length cb)) u [.int .i64 z1, .int .i64 z2, .int .i64 z3, .string z4, .slice z5 z6 z7] place wc.drew (fun k hk => (HM.out.1.lt k hk).2) (RefO.kept ((Ext.refl wc).drew.but _) (fun _ h => .inl h) HZ.out)).mono ?_; rintro e w3 ⟨y1, y2, y3, y4, y5, y6, y7, rfl, hv, hx3⟩; have HV3 := Lib.hid (And.intro hv hx3); have ho := ownsRow_ext hx3 (World.ownsRow.drew HM.out.1.ownb); have f0 := ho.frozenAt (n * 5); have f1 := ho.frozenAt (n * 5 + 1); have f2 := ho.frozenAt (n * 5 + 2); have f3 := ho.frozenAt (n * 5 + 3); have f4 := ho.frozenAt (n * 5 + 4); have d0 := Ext.cell hx3 c0; have d1 := Ext.cell hx3 c1; have d2 := Ext.cell hx3 c2; have d3 := Ext.cell hx3 c3; have d4 := Ext.cell hx3 c4; clear hv hx3 ho)
        all_goals
          go_wp2
          go_roundg (gk - 1)
          case measure => have := HK.out; omega
          case rel =>
            refine ⟨i + 1, us.set n (u.map (.place place)), _, _, by have := HK.out; omega, by go_num, (HM.out.1.ext ((Ext.refl wc).drew.trans HV3.out.2)).setB HV3.out.1, ?_, ?_, HL.out.2.2.set n (good_place (HL.out.2.2.at HU.out) _)⟩
            · rw [List.length_set]; have := HL.out.1; omega
            · have h1 := tsum_set us n u (u.map (.place place)) HU.out 26 (tlen_place place hpl.1 hpl.2 u)
              have h2 := HL.out.2.1
              omega
end Go.Proofs.YtlcnicgjlddldaaDoor
