/- One step of the piles: a row is made. -/
import Derived.Test.YtlcnicgjlddldaaDoorBuiltS
namespace Go.Proofs.YtlcnicgjlddldaaDoor
open Go Go.RowKit

set_option maxHeartbeats 16000000 in
set_option maxRecDepth 100000 in
theorem built_row : built_split.2.2.1 := by
  intro os g off cap w i0 j0 HO HI HJ zQ1 zK2 za3 gk wr u7 u8 u9 u10 u11 u12 u13 u14 u15 u16 u17 u18 u19 u20 u21 u22 u23 u24 u25 u26 u27 u28 u29 u30 u31 u32 zu334 zu345 zu356 zu367 zu378 zu389 zu3910 zu4011 zu4112 zu4213 zu4314 zu4415 u45 u46 u47 u48 u49 u50 u51 u52 u53 u54 u55 u56 u57 u58 u59 u60 u61 u62 u63 u64 u65 u66 u67 u68 u69 u70 u71 u72 u73 u74 u75 u76 u77 u78 u79 u80 u81 u82 u83 u84 u85 u86 u87 u88 u89 u90 u91 u92 u93 u94 u95 u96 u97 u98 u99 u100 u101 u102 u103 u104 u105 u106 u107 u108 u109 u110 u111 u112 u113 u114 u115 u116 u117 u118 u119 u120 u121 u122 u123 u124 u125 u126 u127 u128 u129 u130 u131 u132 u133 u134 u135 u136 u137 u138 u139 u140 zJ16 zK17 za18 za19 i us vs cs HK hi1 hi2 ga ca gb cb hul hu30 hlt hlt2 kind code place word far HH zh20 zK21 za22 u33 u34 u35 u36 u37 s hs8 zK23 za24 u38 u39 u40 u41 u42 u43 u44 c hcr HL hpl wx q HP HQ m0 m1 m2 kk hb7 hb0 hb8 hk
  go_upto_if 105 with fail
  go_cut [105] from 14 to 140 (fun tv w' => tv = .bool true ∧ w' = wx)
  case first =>
    rcases hk with hk | hk
    all_goals
      subst hk
      go_wp2_with fail
      go_meet
      case rel => exact ⟨rfl, rfl⟩
  case rest =>
    obtain ⟨rfl, hwc⟩ := hcut
    have hwx := hwc.symm
    subst hwx
    have hb3 := i64_and3 code
    have hc0 : 0 ≤ code % 4 := by omega
    generalize code % 4 = c4 at hb3 hc0
    go_upto_region 28 with fail
    go_cut [11] from 14 to 140 (fun kv w' => ∃ k : Nat, kv = .int .i64 k ∧ k ≤ us.length ∧ w' = wx)
    case first =>
      go_wp2_with fail
      go_meet
      case rel => exact ⟨us.length - c4.toNat, congrArg (Value.int .i64) (by omega), by omega, rfl⟩
    case rest =>
      obtain ⟨k, rfl, hkl, hwc⟩ := hcut
      have hwx := hwc.symm
      subst hwx
      clear hb3 hc0
      have hca : us.length ≤ ca := own_cap HP.out.owna
      have hcb : us.length ≤ cb := own_cap HP.out.ownb
      have hSl : ∀ j, Own (.slice ga us.length ca) (.slice gb us.length cb) j → j < wx.heap.size := fun j hj => (HP.out.lt j hj).2
      have HDL : Hid (us.length - k = (us.drop k).length) := Lib.hid (List.length_drop).symm
      go_upto_region 29 with fail
      go_cut [12] from 14 to 140 (fun xv w' => Hid (RepOS (Own (.slice ga us.length ca) (.slice gb us.length cb)) w' (joined (us.drop k)) xv ∧ Ext wx w'))
      case first =>
        rcases own_addr HP.out.owna with hga | ⟨g0, hga⟩
        · subst hga
          obtain ⟨hu0, hc0⟩ := own_none HP.out.owna rfl
          obtain rfl : k = 0 := by omega
          subst hc0
          have HU0 := Lib.hid hu0; clear hu0 hca
          have HDA : Hid (us.length = (us.drop 0).length ∧ (us.drop 0).length ≤ 1000000) := ⟨rfl, by rw [List.length_drop]; omega⟩
          go_wp2_with (go_at_call 25; refine (Join_mid (Own (.slice none us.length 0) (.slice gb us.length cb)) (us.drop 0) none us.length 0 _ hSl HDA.out.1 HDA.out.2 (fun h => by have := HU0.out; omega)).mono ?_)
          intro e w3 v he hv hx3
          subst he
          have HX3 := Lib.hid (And.intro hv hx3); clear hv hx3
          go_wp2_with fail
          go_meet
          case rel => exact ⟨HX3.out.1, HX3.out.2⟩
        · subst hga
          by_cases hck : ca = k
          · subst hck
            go_wp2_with (go_at_call 25; refine (Join_none _ _ _).mono ?_)
            intro e w3 he hx3
            subst he
            have HX3 := Lib.hid hx3; clear hx3
            go_wp2_with fail
            go_meet
            case rel => exact ⟨by rw [joined_drop (by omega)]; exact rfl, HX3.out⟩
          · have HE := Lib.hid (HP.out.errsA k)
            go_wp2_with (go_at_call 25; refine (Join_mid (Own (.slice (some ⟨g0, 0, none⟩) us.length ca) (.slice gb us.length cb)) (us.drop k) _ _ _ _ hSl HDL.out (by rw [List.length_drop]; omega) (fun _ => ⟨g0, k, rfl, HE.out⟩)).mono ?_)
            intro e w3 v he hv hx3
            subst he
            have HX3 := Lib.hid (And.intro hv hx3); clear hv hx3
            go_wp2_with fail
            go_meet
            case rel => exact ⟨HX3.out.1, HX3.out.2⟩
      case rest =>
        have HM := hcut; clear hcut
        obtain ⟨wy, hwy⟩ : ∃ wy, wy = wc := ⟨_, rfl⟩
        subst hwy
        have HPc := Lib.hid (HP.out.ext HM.out.2)
        have hSl2 : ∀ j, Own (.slice ga us.length ca) (.slice gb us.length cb) j → j < wy.heap.size := fun j hj => (HPc.out.lt j hj).2
        go_upto_region 30 with fail
        go_cut [13] from 14 to 140 (fun pv w' => ∃ (B n1 : Nat) (n2 n3 : Int) (n4 : ByteArray) (n5 : Option Addr) (n6 n7 : Nat), pv = .pointer (some ⟨B, 0, none⟩) ∧ Hid (w'.heap[B]? = some (.cells #[.int .i64 n1, .int .i64 n2, .int .i64 n3, .string n4, .slice n5 n6 n7] 37 (0, 0)) ∧ RefO (Own (.slice ga us.length ca) (.slice gb us.length cb)) w' (joined (us.drop k)) [.int .i64 n1, .int .i64 n2, .int .i64 n3, .string n4, .slice n5 n6 n7] ∧ Ext wy w' ∧ wy.heap.size ≤ B))
        case first =>
          rcases own_addr HP.out.ownb with hgb | ⟨g1, hgb⟩
          · subst hgb
            obtain ⟨hu0, hc0⟩ := own_none HP.out.ownb rfl
            obtain rfl : k = 0 := by omega
            subst hc0
            have HU0 := Lib.hid hu0; clear hu0 hcb hca
            have HDA : Hid (us.length = (us.drop 0).length ∧ (us.drop 0).length ≤ 1000000) := ⟨rfl, by rw [List.length_drop]; omega⟩
            go_wp2_with (go_at_call 36; refine (refJoin_mid (Own (.slice ga us.length ca) (.slice none us.length 0)) (us.drop 0) none us.length 0 _ hSl2 HDA.out.1 HDA.out.2 (fun h => by have := HU0.out; omega)).mono ?_)
            intro e w3 ds he hv hx3
            subst he
            obtain ⟨n1, n2, n3, n4, n5, n6, n7, rfl, _⟩ := hv.form
            have HX3 := Lib.hid (And.intro hv hx3); clear hv hx3
            go_wp2_with fail
            go_meet
            case rel => exact ⟨_, n1, n2, n3, n4, n5, n6, n7, rfl, Go.heap_alloc_new w3 _, RefO.kept (((Ext.refl w3).alloc _).but _) (fun _ h => .inl h) HX3.out.1, HX3.out.2.alloc _, HX3.out.2.size⟩
          · subst hgb
            by_cases hck : cb = k
            · subst hck
              have hdr : us.drop cb = [] := List.drop_of_length_le hcb
              have HDR := Lib.hid hdr; clear hdr
              go_wp2_with (go_at_call 36; refine (refJoin_none (Own (.slice ga us.length ca) (.slice (some ⟨g1, 0, none⟩) us.length cb)) _ _ _).mono ?_)
              intro e w3 ds he hv hx3
              subst he
              obtain ⟨n1, n2, n3, n4, n5, n6, n7, rfl, _⟩ := hv.form
              have HX3 := Lib.hid (And.intro hv hx3); clear hv hx3
              go_wp2_with fail
              go_meet
              case rel =>
                refine ⟨_, n1, n2, n3, n4, n5, n6, n7, rfl, Go.heap_alloc_new w3 _, ?_, HX3.out.2.alloc _, HX3.out.2.size⟩
                rw [HDR.out]
                exact RefO.kept (((Ext.refl w3).alloc _).but _) (fun _ h => .inl h) HX3.out.1
            · have HE := Lib.hid (HPc.out.errsB k)
              go_wp2_with (go_at_call 36; refine (refJoin_mid (Own (.slice ga us.length ca) (.slice (some ⟨g1, 0, none⟩) us.length cb)) (us.drop k) _ _ _ _ hSl2 HDL.out (by rw [List.length_drop]; omega) (fun _ => ⟨g1, k * 5, rfl, HE.out⟩)).mono ?_)
              intro e w3 ds he hv hx3
              subst he
              obtain ⟨n1, n2, n3, n4, n5, n6, n7, rfl, _⟩ := hv.form
              have HX3 := Lib.hid (And.intro hv hx3); clear hv hx3
              go_wp2_with fail
              go_meet
              case rel => exact ⟨_, n1, n2, n3, n4, n5, n6, n7, rfl, Go.heap_alloc_new w3 _, RefO.kept (((Ext.refl w3).alloc _).but _) (fun _ h => .inl h) HX3.out.1, HX3.out.2.alloc _, HX3.out.2.size⟩
        case rest =>
          obtain ⟨B, n1, n2, n3, n4, n5, n6, n7, rfl, HB⟩ := hcut
          obtain ⟨wz, hwz⟩ : ∃ wz, wz = wc := ⟨_, rfl⟩
          subst hwz
          have HPz := Lib.hid (HPc.out.ext HB.out.2.2.1)
          have HVz := Lib.hid (RepOS.kept ((HB.out.2.2.1).but _) (fun _ h => .inl h) HM.out.1)
          have hkca : k ≤ ca := by omega
          have hkcb : k ≤ cb := by omega
          go_upto_region 31 with fail
          go_cut [4] from 14 to 140 (fun a' w' => ∃ (g' ca' : Nat) (vs' : List Value), a' = .slice (some ⟨g', 0, none⟩) (k + 1) ca' ∧ Hid (Piles w w' a' (.slice gb us.length cb) (us.take k ++ [joined (us.drop k)]) us vs' cs ∧ Ext wz w' ∧ wz.heap.size ≤ g'))
          case first =>
            have hvf := HVz.out.forms
            rcases own_addr HP.out.owna with hga | ⟨g0, hga⟩
            · subst hga
              obtain ⟨hu0, hc0⟩ := own_none HP.out.owna rfl
              obtain rfl : k = 0 := by omega
              subst hc0
              have HU0 := Lib.hid hu0; clear hu0 hca
              rcases hvf with hvf | ⟨u, x, hvf⟩
              all_goals
                subst hvf
                go_wp2_with (at_builtin; go_loud (refine wpList_append_opt rfl _ _ 24 rfl wz.heap.size 31 j0 .nilIface 1 16 Tryd.underlying24 HJ.out.1 HJ.out.2.1 HJ.out.2.2.1 HJ.out.2.2.2 rfl (by decide) _ 0 [] rfl (World.ownsRow_lit wz #[] 0 (Nat.le_refl _) (by decide) rfl) none 0 0 (vs.take 0) rfl (fun _ => ⟨rfl, rfl⟩) rfl (fun _ h => by cases h) (fun _ h => by cases h) (by unfold maxLen; omega) (by omega) (by simp) ?g2))
                case g2 =>
                  intro v1 w1 hown1 hg1
                  have hx1 : Ext wz w1 := ext_app ((Ext.refl wz).alloc _) hg1 (lit_ge (Nat.le_refl _))
                  have HX1 := Lib.hid (And.intro hx1 hown1)
                  clear hx1 hown1 hg1
                  go_wp2_with (at_builtin; go_loud (refine wpList_append_lies _ rfl _ _ 24 rfl wz.heap.size 31 j0 .nilIface 1 16 Tryd.underlying24 HJ.out.1 HJ.out.2.1 HJ.out.2.2.1 HJ.out.2.2.2 rfl (by decide) _ _ _ rfl (HX1.out.2.alloc _) ⟨w1.heap.size, 0, none⟩ 1 1 _ rfl rfl (cell_one_here _ _ _ _ rfl) (by simp [Value.oneCell']) (by decide) (by unfold maxLen; omega) (by omega) (by have := HX1.out.1.size; simp; omega) _ rfl ?g3))
                  case g3 =>
                    intro g' ca' w2 hown hg hat hlt'
                    clear hat hlt'
                    have hx2 : Ext wz w2 := ext_app (HX1.out.1.alloc _) hg (fun j ej => (HX1.out.2.lt j ej).1)
                    have hgb : wz.heap.size ≤ g' := (hown.lt g' rfl).1
                    have HN := Lib.hid (And.intro (Piles.newA HPz.out (ext_grown hx2 _) (.inr hgb) (ua' := us.take 0 ++ [joined (us.drop 0)]) (by rw [len_take1 (by omega)]; exact ownsRow_low hown HPz.out.below.size) (RepsA.snoc (by rw [List.length_take, List.length_take]; have := HPz.out.owna.1; omega) (HPz.out.repa.take 0) HVz.out)) (And.intro hx2 hgb))
                    clear hown hg hx2 hgb
                    go_wp2_with fail
                    go_meet
                    case rel => exact ⟨_, _, _, rfl, HN.out.1, HN.out.2⟩
            · subst hga
              have HLN : Hid ((vs.take k).length = k * 1 ∧ ∀ u ∈ vs.take k, u.oneCell' = true) := ⟨by rw [List.length_take]; have := HPz.out.owna.1; omega, fun u hu => HPz.out.repa.ones (by have := HPz.out.owna.1; omega) u (List.mem_of_mem_take hu)⟩
              rcases hvf with hvf | ⟨u, x, hvf⟩
              all_goals
                subst hvf
                go_wp2_with (at_builtin; go_loud (refine wpList_append_opt rfl _ _ 24 rfl wz.heap.size 31 j0 .nilIface 1 16 Tryd.underlying24 HJ.out.1 HJ.out.2.1 HJ.out.2.2.1 HJ.out.2.2.2 rfl (by decide) _ 0 [] rfl (World.ownsRow_lit wz #[] 0 (Nat.le_refl _) (by decide) rfl) (some ⟨g0, 0, none⟩) k ca (vs.take k) rfl (fun h => by cases h) HLN.out.1 (own_take (HPz.out.owna.alloc _) k) HLN.out.2 (by unfold maxLen; omega) (by omega) (by simp) ?g2))
                case g2 =>
                  intro v1 w1 hown1 hg1
                  have hx1 : Ext wz w1 := ext_app ((Ext.refl wz).alloc _) hg1 (lit_ge (Nat.le_refl _))
                  have HX1 := Lib.hid (And.intro hx1 hown1)
                  clear hx1 hown1 hg1
                  go_wp2_with (at_builtin; go_loud (refine wpList_append_lies _ rfl _ _ 24 rfl wz.heap.size 31 j0 .nilIface 1 16 Tryd.underlying24 HJ.out.1 HJ.out.2.1 HJ.out.2.2.1 HJ.out.2.2.2 rfl (by decide) _ _ _ rfl (HX1.out.2.alloc _) ⟨w1.heap.size, 0, none⟩ 1 1 _ rfl rfl (cell_one_here _ _ _ _ rfl) (by simp [Value.oneCell']) (by decide) (by unfold maxLen; omega) (by omega) (by have := HX1.out.1.size; simp; omega) _ rfl ?g3))
                  case g3 =>
                    intro g' ca' w2 hown hg hat hlt'
                    clear hat hlt'
                    have hx2 : Ext wz w2 := ext_app (HX1.out.1.alloc _) hg (fun j ej => (HX1.out.2.lt j ej).1)
                    have hgb : wz.heap.size ≤ g' := (hown.lt g' rfl).1
                    have HN := Lib.hid (And.intro (Piles.newA HPz.out (ext_grown hx2 _) (.inr hgb) (ua' := us.take k ++ [joined (us.drop k)]) (by rw [len_take1 (by omega)]; exact ownsRow_low hown HPz.out.below.size) (RepsA.snoc (by rw [List.length_take, List.length_take]; have := HPz.out.owna.1; omega) (HPz.out.repa.take k) HVz.out)) (And.intro hx2 hgb))
                    clear hown hg hx2 hgb
                    go_wp2_with fail
                    go_meet
                    case rel => exact ⟨_, _, _, rfl, HN.out.1, HN.out.2⟩
          case rest =>
            obtain ⟨g', ca', vs', rfl, HW⟩ := hcut
            obtain ⟨wa, hwa⟩ : ∃ wa, wa = wc := ⟨_, rfl⟩
            subst hwa
            have hBw := heap_ext' HW.out.2.1 HB.out.1
            have b0 : wa.cell? ⟨B, 0, none⟩ = some (.int .i64 n1) := by rw [Lib.cell_of_heap hBw]; rfl
            have b1 : wa.cell? ⟨B, 1, none⟩ = some (.int .i64 n2) := by rw [Lib.cell_of_heap hBw]; rfl
            have b2 : wa.cell? ⟨B, 2, none⟩ = some (.int .i64 n3) := by rw [Lib.cell_of_heap hBw]; rfl
            have b3 : wa.cell? ⟨B, 3, none⟩ = some (.string n4) := by rw [Lib.cell_of_heap hBw]; rfl
            have b4 : wa.cell? ⟨B, 4, none⟩ = some (.slice n5 n6 n7) := by rw [Lib.cell_of_heap hBw]; rfl
            have bb0 : wa.drew.cell? ⟨B, 0, none⟩ = some (.int .i64 n1) := b0
            have ba0 : (wa.alloc (.cells #[] 37)).cell? ⟨B, 0, none⟩ = some (.int .i64 n1) := Ext.cell ((Ext.refl wa).alloc _) b0
            have bd0 : (wa.alloc (.cells #[] 37)).drew.cell? ⟨B, 0, none⟩ = some (.int .i64 n1) := Ext.cell ((Ext.refl wa).alloc _) b0
            have bb1 : wa.drew.cell? ⟨B, 1, none⟩ = some (.int .i64 n2) := b1
            have ba1 : (wa.alloc (.cells #[] 37)).cell? ⟨B, 1, none⟩ = some (.int .i64 n2) := Ext.cell ((Ext.refl wa).alloc _) b1
            have bd1 : (wa.alloc (.cells #[] 37)).drew.cell? ⟨B, 1, none⟩ = some (.int .i64 n2) := Ext.cell ((Ext.refl wa).alloc _) b1
            have bb2 : wa.drew.cell? ⟨B, 2, none⟩ = some (.int .i64 n3) := b2
            have ba2 : (wa.alloc (.cells #[] 37)).cell? ⟨B, 2, none⟩ = some (.int .i64 n3) := Ext.cell ((Ext.refl wa).alloc _) b2
            have bd2 : (wa.alloc (.cells #[] 37)).drew.cell? ⟨B, 2, none⟩ = some (.int .i64 n3) := Ext.cell ((Ext.refl wa).alloc _) b2
            have bb3 : wa.drew.cell? ⟨B, 3, none⟩ = some (.string n4) := b3
            have ba3 : (wa.alloc (.cells #[] 37)).cell? ⟨B, 3, none⟩ = some (.string n4) := Ext.cell ((Ext.refl wa).alloc _) b3
            have bd3 : (wa.alloc (.cells #[] 37)).drew.cell? ⟨B, 3, none⟩ = some (.string n4) := Ext.cell ((Ext.refl wa).alloc _) b3
            have bb4 : wa.drew.cell? ⟨B, 4, none⟩ = some (.slice n5 n6 n7) := b4
            have ba4 : (wa.alloc (.cells #[] 37)).cell? ⟨B, 4, none⟩ = some (.slice n5 n6 n7) := Ext.cell ((Ext.refl wa).alloc _) b4
            have bd4 : (wa.alloc (.cells #[] 37)).drew.cell? ⟨B, 4, none⟩ = some (.slice n5 n6 n7) := Ext.cell ((Ext.refl wa).alloc _) b4
            have HBW := Lib.hid hBw; clear hBw
            have HREF := Lib.hid (RefO.kept (T := Own (.slice (some ⟨g', 0, none⟩) (k + 1) ca') (.slice gb us.length cb)) (HW.out.2.1.but _) (fun j hj => own_new HW.out.2.2 hj) HB.out.2.1)
            have HLN : Hid ((cs.take (k * 5)).length = k * 5 ∧ ∀ u ∈ cs.take (k * 5), u.oneCell' = true) := ⟨by rw [List.length_take]; have := HPz.out.ownb.1; omega, fun u hu => HPz.out.repb.ones (by have := HPz.out.ownb.1; omega) u (List.mem_of_mem_take hu)⟩
            go_upto_region 32 with fail
            rcases own_addr HW.out.1.ownb with hgb | ⟨g1, hgb⟩
            · subst hgb
              obtain ⟨hu0, hc0⟩ := own_none HW.out.1.ownb rfl
              obtain rfl : k = 0 := by omega
              subst hc0
              have HU0 := Lib.hid hu0; clear hu0 hcb
              have HNO : Hid ((none : Option Addr) = none → 0 = 0 ∧ 0 = 0) := Lib.hid (fun _ => ⟨rfl, rfl⟩)
              have HA1 := Lib.hid (AtApp.one (w := w) (wa := wa) HW.out.1.ownb)
              have HA2 := Lib.hid (AtApp.two (w := w) (wa := wa) (.cells #[.int .i64 n1, .int .i64 n2, .int .i64 n3, .string n4, .slice n5 n6 n7] 37) HW.out.1.ownb)
              have HA3 := Lib.hid (AtApp.three (w := w) (wa := wa) (.cells #[.int .i64 n1, .int .i64 n2, .int .i64 n3, .string n4, .slice n5 n6 n7] 37) HW.out.1.ownb)
              have HS2 := Lib.hid (single_two wa (.cells #[.int .i64 n1, .int .i64 n2, .int .i64 n3, .string n4, .slice n5 n6 n7] 37))
              have HS3 := Lib.hid (single_three wa (.cells #[.int .i64 n1, .int .i64 n2, .int .i64 n3, .string n4, .slice n5 n6 n7] 37))
              have HNUM : Hid (0 + 0 ≤ maxLen ∧ (0 + 0) * 64 ≤ 140737488355328) := ⟨by unfold maxLen; omega, by omega⟩
              have HNUM1 : Hid (0 + 1 ≤ maxLen ∧ (0 + 1) * 64 ≤ 140737488355328) := ⟨by unfold maxLen; omega, by omega⟩
              have HLEN : Hid (0 ≤ us.length) := hkl
              go_region_law (first | (refine step_append_opt rfl (.tmp 133) (.tmp 136) 25 rfl wa.heap.size 37 i0 (.agg #[.int .i64 0, .int .i64 0, .int .i64 0, .string ⟨#[]⟩, .slice none 0 0]) 5 64 Tryd.underlying25 HI.out.1 HI.out.2.1 HI.out.2.2.1 HI.out.2.2.2 rfl (by decide) (.slice (some ⟨wa.heap.size, 0, none⟩) 0 0) 0 [] rfl HA1.out.row none 0 0 (cs.take (0 * 5)) rfl HNO.out HLN.out.1 (own_take HA1.out.own (0 * 5)) HLN.out.2 HNUM.out.1 HNUM.out.2 HA1.out.ext.size ?_; intro v1 w1 hown1 hg1; have HNEWS1 := Lib.hid (cells_new_add w1 [.int .i64 n1, .int .i64 n2, .int .i64 n3, .string n4, .slice n5 n6 n7] 37); have HX1 : Hid (Ext wa w1 ∧ w1.ownsRow wa.heap.size 37 5 v1 0 (cs.take (0 * 5))) := Lib.hid (And.intro (ext_app HA1.out.ext hg1 (lit_ge HA1.out.ge)) (by simpa using hown1)); clear hown1 hg1; have d0 := Ext.cell HX1.out.1 b0; have d1 := Ext.cell HX1.out.1 b1; have d2 := Ext.cell HX1.out.1 b2; have d3 := Ext.cell HX1.out.1 b3; have d4 := Ext.cell HX1.out.1 b4) | (refine step_append_opt rfl (.tmp 133) (.tmp 136) 25 rfl wa.heap.size 37 i0 (.agg #[.int .i64 0, .int .i64 0, .int .i64 0, .string ⟨#[]⟩, .slice none 0 0]) 5 64 Tryd.underlying25 HI.out.1 HI.out.2.1 HI.out.2.2.1 HI.out.2.2.2 rfl (by decide) (.slice (some ⟨wa.heap.size, 0, none⟩) 0 0) 0 [] rfl HA2.out.row none 0 0 (cs.take (0 * 5)) rfl HNO.out HLN.out.1 (own_take HA2.out.own (0 * 5)) HLN.out.2 HNUM.out.1 HNUM.out.2 HA2.out.ext.size ?_; intro v1 w1 hown1 hg1; have HNEWS2 := Lib.hid (news_kept hg1 [.int .i64 n1, .int .i64 n2, .int .i64 n3, .string n4, .slice n5 n6 n7] 37 HS2.out (by simp [Value.ownBlock])); have HX1 : Hid (Ext wa w1 ∧ w1.ownsRow wa.heap.size 37 5 v1 0 (cs.take (0 * 5))) := Lib.hid (And.intro (ext_app HA2.out.ext hg1 (lit_ge HA2.out.ge)) (by simpa using hown1)); clear hown1 hg1; have d0 := Ext.cell HX1.out.1 b0; have d1 := Ext.cell HX1.out.1 b1; have d2 := Ext.cell HX1.out.1 b2; have d3 := Ext.cell HX1.out.1 b3; have d4 := Ext.cell HX1.out.1 b4) | (refine step_append_opt rfl (.tmp 133) (.tmp 136) 25 rfl wa.heap.size 37 i0 (.agg #[.int .i64 0, .int .i64 0, .int .i64 0, .string ⟨#[]⟩, .slice none 0 0]) 5 64 Tryd.underlying25 HI.out.1 HI.out.2.1 HI.out.2.2.1 HI.out.2.2.2 rfl (by decide) (.slice (some ⟨(wa.heap.size + 1), 0, none⟩) 0 0) 0 [] rfl HA3.out.row none 0 0 (cs.take (0 * 5)) rfl HNO.out HLN.out.1 (own_take HA3.out.own (0 * 5)) HLN.out.2 HNUM.out.1 HNUM.out.2 HA3.out.ext.size ?_; intro v1 w1 hown1 hg1; have HNEWS3 := Lib.hid (news_kept hg1 [.int .i64 n1, .int .i64 n2, .int .i64 n3, .string n4, .slice n5 n6 n7] 37 HS3.out (by simp [Value.ownBlock])); have HX1 : Hid (Ext wa w1 ∧ w1.ownsRow wa.heap.size 37 5 v1 0 (cs.take (0 * 5))) := Lib.hid (And.intro (ext_app HA3.out.ext hg1 (lit_ge HA3.out.ge)) (by simpa using hown1)); clear hown1 hg1; have d0 := Ext.cell HX1.out.1 b0; have d1 := Ext.cell HX1.out.1 b1; have d2 := Ext.cell HX1.out.1 b2; have d3 := Ext.cell HX1.out.1 b3; have d4 := Ext.cell HX1.out.1 b4) | (refine step_append_lies _ rfl (.tmp 137) (.tmp 139) 25 rfl wa.heap.size 37 i0 (.agg #[.int .i64 0, .int .i64 0, .int .i64 0, .string ⟨#[]⟩, .slice none 0 0]) 5 64 Tryd.underlying25 HI.out.1 HI.out.2.1 HI.out.2.2.1 HI.out.2.2.2 rfl (by decide) v1 0 (cs.take (0 * 5)) rfl (World.ownsRow.alloc HX1.out.2 (.cells #[.int .i64 n1, .int .i64 n2, .int .i64 n3, .string n4, .slice n5 n6 n7] 37)) ⟨w1.heap.size, 0, none⟩ 1 1 [.int .i64 n1, .int .i64 n2, .int .i64 n3, .string n4, .slice n5 n6 n7] rfl rfl HNEWS1.out (by simp [Value.oneCell']) (by decide) HNUM1.out.1 HNUM1.out.2 (Below.size (Ext.alloc HX1.out.1 (.cells #[.int .i64 n1, .int .i64 n2, .int .i64 n3, .string n4, .slice n5 n6 n7] 37))) _ rfl ?_; intro g2 cb' w2 hown hg hat hlt'; clear hat hlt'; have hx2 : Ext wa w2 := ext_app (Ext.alloc HX1.out.1 (.cells #[.int .i64 n1, .int .i64 n2, .int .i64 n3, .string n4, .slice n5 n6 n7] 37)) hg (fun j ej => (HX1.out.2.lt j ej).1); have HN := Lib.hid (built_b HW.out.1 hx2 hown HREF.out HLEN.out); clear hown hg hx2) | (refine step_append_lies _ rfl (.tmp 137) (.tmp 139) 25 rfl wa.heap.size 37 i0 (.agg #[.int .i64 0, .int .i64 0, .int .i64 0, .string ⟨#[]⟩, .slice none 0 0]) 5 64 Tryd.underlying25 HI.out.1 HI.out.2.1 HI.out.2.2.1 HI.out.2.2.2 rfl (by decide) v1 0 (cs.take (0 * 5)) rfl HX1.out.2 ⟨(wa.heap.size + 1), 0, none⟩ 1 1 [.int .i64 n1, .int .i64 n2, .int .i64 n3, .string n4, .slice n5 n6 n7] rfl rfl HNEWS2.out (by simp [Value.oneCell']) (by decide) HNUM1.out.1 HNUM1.out.2 (Below.size HX1.out.1) _ rfl ?_; intro g2 cb' w2 hown hg hat hlt'; clear hat hlt'; have hx2 : Ext wa w2 := ext_app HX1.out.1 hg (fun j ej => (HX1.out.2.lt j ej).1); have HN := Lib.hid (built_b HW.out.1 hx2 hown HREF.out HLEN.out); clear hown hg hx2) | (refine step_append_lies _ rfl (.tmp 137) (.tmp 139) 25 rfl wa.heap.size 37 i0 (.agg #[.int .i64 0, .int .i64 0, .int .i64 0, .string ⟨#[]⟩, .slice none 0 0]) 5 64 Tryd.underlying25 HI.out.1 HI.out.2.1 HI.out.2.2.1 HI.out.2.2.2 rfl (by decide) v1 0 (cs.take (0 * 5)) rfl HX1.out.2 ⟨wa.heap.size, 0, none⟩ 1 1 [.int .i64 n1, .int .i64 n2, .int .i64 n3, .string n4, .slice n5 n6 n7] rfl rfl HNEWS3.out (by simp [Value.oneCell']) (by decide) HNUM1.out.1 HNUM1.out.2 (Below.size HX1.out.1) _ rfl ?_; intro g2 cb' w2 hown hg hat hlt'; clear hat hlt'; have hx2 : Ext wa w2 := ext_app HX1.out.1 hg (fun j ej => (HX1.out.2.lt j ej).1); have HN := Lib.hid (built_b HW.out.1 hx2 hown HREF.out HLEN.out); clear hown hg hx2))
              all_goals
                go_wp2
                go_roundg (gk - 1)
                case measure => have := HK.out; omega
                case rel =>
                  refine ⟨i + 1, us.take 0 ++ [joined (us.drop 0)], _, _, by have := HK.out; omega, by go_num, HN.out, ?_, ?_, (HL.out.2.2.take 0).snoc (good_joined (HL.out.2.2.drop 0))⟩
                  · rw [len_take1 hkl]; have := HL.out.1; omega
                  · rw [tsum_append]
                    have h1 := tlen_joined (us.drop 0)
                    have h2 : tsum us = tsum (us.take 0) + tsum (us.drop 0) := by rw [← tsum_append, List.take_append_drop]
                    have h3 := HL.out.2.1
                    have h4 : (us.drop 0).length = us.length - 0 := List.length_drop
                    simp only [tsum]; omega
            · subst hgb
              have HNO : Hid (some (⟨g1, 0, none⟩ : Addr) = none → k = 0 ∧ cb = 0) := Lib.hid (fun h => by cases h)
              have HA1 := Lib.hid (AtApp.one (w := w) (wa := wa) HW.out.1.ownb)
              have HA2 := Lib.hid (AtApp.two (w := w) (wa := wa) (.cells #[.int .i64 n1, .int .i64 n2, .int .i64 n3, .string n4, .slice n5 n6 n7] 37) HW.out.1.ownb)
              have HA3 := Lib.hid (AtApp.three (w := w) (wa := wa) (.cells #[.int .i64 n1, .int .i64 n2, .int .i64 n3, .string n4, .slice n5 n6 n7] 37) HW.out.1.ownb)
              have HS2 := Lib.hid (single_two wa (.cells #[.int .i64 n1, .int .i64 n2, .int .i64 n3, .string n4, .slice n5 n6 n7] 37))
              have HS3 := Lib.hid (single_three wa (.cells #[.int .i64 n1, .int .i64 n2, .int .i64 n3, .string n4, .slice n5 n6 n7] 37))
              have HNUM : Hid (0 + k ≤ maxLen ∧ (0 + k) * 64 ≤ 140737488355328) := ⟨by unfold maxLen; omega, by omega⟩
              have HNUM1 : Hid (k + 1 ≤ maxLen ∧ (k + 1) * 64 ≤ 140737488355328) := ⟨by unfold maxLen; omega, by omega⟩
              have HLEN : Hid (k ≤ us.length) := hkl
              go_region_law (first | (refine step_append_opt rfl (.tmp 133) (.tmp 136) 25 rfl wa.heap.size 37 i0 (.agg #[.int .i64 0, .int .i64 0, .int .i64 0, .string ⟨#[]⟩, .slice none 0 0]) 5 64 Tryd.underlying25 HI.out.1 HI.out.2.1 HI.out.2.2.1 HI.out.2.2.2 rfl (by decide) (.slice (some ⟨wa.heap.size, 0, none⟩) 0 0) 0 [] rfl HA1.out.row (some ⟨g1, 0, none⟩) k cb (cs.take (k * 5)) rfl HNO.out HLN.out.1 (own_take HA1.out.own (k * 5)) HLN.out.2 HNUM.out.1 HNUM.out.2 HA1.out.ext.size ?_; intro v1 w1 hown1 hg1; have HNEWS1 := Lib.hid (cells_new_add w1 [.int .i64 n1, .int .i64 n2, .int .i64 n3, .string n4, .slice n5 n6 n7] 37); have HX1 : Hid (Ext wa w1 ∧ w1.ownsRow wa.heap.size 37 5 v1 k (cs.take (k * 5))) := Lib.hid (And.intro (ext_app HA1.out.ext hg1 (lit_ge HA1.out.ge)) (by simpa using hown1)); clear hown1 hg1; have d0 := Ext.cell HX1.out.1 b0; have d1 := Ext.cell HX1.out.1 b1; have d2 := Ext.cell HX1.out.1 b2; have d3 := Ext.cell HX1.out.1 b3; have d4 := Ext.cell HX1.out.1 b4) | (refine step_append_opt rfl (.tmp 133) (.tmp 136) 25 rfl wa.heap.size 37 i0 (.agg #[.int .i64 0, .int .i64 0, .int .i64 0, .string ⟨#[]⟩, .slice none 0 0]) 5 64 Tryd.underlying25 HI.out.1 HI.out.2.1 HI.out.2.2.1 HI.out.2.2.2 rfl (by decide) (.slice (some ⟨wa.heap.size, 0, none⟩) 0 0) 0 [] rfl HA2.out.row (some ⟨g1, 0, none⟩) k cb (cs.take (k * 5)) rfl HNO.out HLN.out.1 (own_take HA2.out.own (k * 5)) HLN.out.2 HNUM.out.1 HNUM.out.2 HA2.out.ext.size ?_; intro v1 w1 hown1 hg1; have HNEWS2 := Lib.hid (news_kept hg1 [.int .i64 n1, .int .i64 n2, .int .i64 n3, .string n4, .slice n5 n6 n7] 37 HS2.out (by simp [Value.ownBlock])); have HX1 : Hid (Ext wa w1 ∧ w1.ownsRow wa.heap.size 37 5 v1 k (cs.take (k * 5))) := Lib.hid (And.intro (ext_app HA2.out.ext hg1 (lit_ge HA2.out.ge)) (by simpa using hown1)); clear hown1 hg1; have d0 := Ext.cell HX1.out.1 b0; have d1 := Ext.cell HX1.out.1 b1; have d2 := Ext.cell HX1.out.1 b2; have d3 := Ext.cell HX1.out.1 b3; have d4 := Ext.cell HX1.out.1 b4) | (refine step_append_opt rfl (.tmp 133) (.tmp 136) 25 rfl wa.heap.size 37 i0 (.agg #[.int .i64 0, .int .i64 0, .int .i64 0, .string ⟨#[]⟩, .slice none 0 0]) 5 64 Tryd.underlying25 HI.out.1 HI.out.2.1 HI.out.2.2.1 HI.out.2.2.2 rfl (by decide) (.slice (some ⟨(wa.heap.size + 1), 0, none⟩) 0 0) 0 [] rfl HA3.out.row (some ⟨g1, 0, none⟩) k cb (cs.take (k * 5)) rfl HNO.out HLN.out.1 (own_take HA3.out.own (k * 5)) HLN.out.2 HNUM.out.1 HNUM.out.2 HA3.out.ext.size ?_; intro v1 w1 hown1 hg1; have HNEWS3 := Lib.hid (news_kept hg1 [.int .i64 n1, .int .i64 n2, .int .i64 n3, .string n4, .slice n5 n6 n7] 37 HS3.out (by simp [Value.ownBlock])); have HX1 : Hid (Ext wa w1 ∧ w1.ownsRow wa.heap.size 37 5 v1 k (cs.take (k * 5))) := Lib.hid (And.intro (ext_app HA3.out.ext hg1 (lit_ge HA3.out.ge)) (by simpa using hown1)); clear hown1 hg1; have d0 := Ext.cell HX1.out.1 b0; have d1 := Ext.cell HX1.out.1 b1; have d2 := Ext.cell HX1.out.1 b2; have d3 := Ext.cell HX1.out.1 b3; have d4 := Ext.cell HX1.out.1 b4) | (refine step_append_lies _ rfl (.tmp 137) (.tmp 139) 25 rfl wa.heap.size 37 i0 (.agg #[.int .i64 0, .int .i64 0, .int .i64 0, .string ⟨#[]⟩, .slice none 0 0]) 5 64 Tryd.underlying25 HI.out.1 HI.out.2.1 HI.out.2.2.1 HI.out.2.2.2 rfl (by decide) v1 k (cs.take (k * 5)) rfl (World.ownsRow.alloc HX1.out.2 (.cells #[.int .i64 n1, .int .i64 n2, .int .i64 n3, .string n4, .slice n5 n6 n7] 37)) ⟨w1.heap.size, 0, none⟩ 1 1 [.int .i64 n1, .int .i64 n2, .int .i64 n3, .string n4, .slice n5 n6 n7] rfl rfl HNEWS1.out (by simp [Value.oneCell']) (by decide) HNUM1.out.1 HNUM1.out.2 (Below.size (Ext.alloc HX1.out.1 (.cells #[.int .i64 n1, .int .i64 n2, .int .i64 n3, .string n4, .slice n5 n6 n7] 37))) _ rfl ?_; intro g2 cb' w2 hown hg hat hlt'; clear hat hlt'; have hx2 : Ext wa w2 := ext_app (Ext.alloc HX1.out.1 (.cells #[.int .i64 n1, .int .i64 n2, .int .i64 n3, .string n4, .slice n5 n6 n7] 37)) hg (fun j ej => (HX1.out.2.lt j ej).1); have HN := Lib.hid (built_b HW.out.1 hx2 hown HREF.out HLEN.out); clear hown hg hx2) | (refine step_append_lies _ rfl (.tmp 137) (.tmp 139) 25 rfl wa.heap.size 37 i0 (.agg #[.int .i64 0, .int .i64 0, .int .i64 0, .string ⟨#[]⟩, .slice none 0 0]) 5 64 Tryd.underlying25 HI.out.1 HI.out.2.1 HI.out.2.2.1 HI.out.2.2.2 rfl (by decide) v1 k (cs.take (k * 5)) rfl HX1.out.2 ⟨(wa.heap.size + 1), 0, none⟩ 1 1 [.int .i64 n1, .int .i64 n2, .int .i64 n3, .string n4, .slice n5 n6 n7] rfl rfl HNEWS2.out (by simp [Value.oneCell']) (by decide) HNUM1.out.1 HNUM1.out.2 (Below.size HX1.out.1) _ rfl ?_; intro g2 cb' w2 hown hg hat hlt'; clear hat hlt'; have hx2 : Ext wa w2 := ext_app HX1.out.1 hg (fun j ej => (HX1.out.2.lt j ej).1); have HN := Lib.hid (built_b HW.out.1 hx2 hown HREF.out HLEN.out); clear hown hg hx2) | (refine step_append_lies _ rfl (.tmp 137) (.tmp 139) 25 rfl wa.heap.size 37 i0 (.agg #[.int .i64 0, .int .i64 0, .int .i64 0, .string ⟨#[]⟩, .slice none 0 0]) 5 64 Tryd.underlying25 HI.out.1 HI.out.2.1 HI.out.2.2.1 HI.out.2.2.2 rfl (by decide) v1 k (cs.take (k * 5)) rfl HX1.out.2 ⟨wa.heap.size, 0, none⟩ 1 1 [.int .i64 n1, .int .i64 n2, .int .i64 n3, .string n4, .slice n5 n6 n7] rfl rfl HNEWS3.out (by simp [Value.oneCell']) (by decide) HNUM1.out.1 HNUM1.out.2 (Below.size HX1.out.1) _ rfl ?_; intro g2 cb' w2 hown hg hat hlt'; clear hat hlt'; have hx2 : Ext wa w2 := ext_app HX1.out.1 hg (fun j ej => (HX1.out.2.lt j ej).1); have HN := Lib.hid (built_b HW.out.1 hx2 hown HREF.out HLEN.out); clear hown hg hx2))
              all_goals
                go_wp2
                go_roundg (gk - 1)
                case measure => have := HK.out; omega
                case rel =>
                  refine ⟨i + 1, us.take k ++ [joined (us.drop k)], _, _, by have := HK.out; omega, by go_num, HN.out, ?_, ?_, (HL.out.2.2.take k).snoc (good_joined (HL.out.2.2.drop k))⟩
                  · rw [len_take1 hkl]; have := HL.out.1; omega
                  · rw [tsum_append]
                    have h1 := tlen_joined (us.drop k)
                    have h2 : tsum us = tsum (us.take k) + tsum (us.drop k) := by rw [← tsum_append, List.take_append_drop]
                    have h3 := HL.out.2.1
                    have h4 : (us.drop k).length = us.length - k := List.length_drop
                    simp only [tsum]; omega
end Go.Proofs.YtlcnicgjlddldaaDoor
