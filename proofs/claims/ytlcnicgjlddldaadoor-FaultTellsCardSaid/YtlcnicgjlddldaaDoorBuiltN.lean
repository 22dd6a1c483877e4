/- One step of the piles: a new fault. -/
import Derived.Test.YtlcnicgjlddldaaDoorBuiltS
namespace Go.Proofs.YtlcnicgjlddldaaDoor
open Go Go.RowKit

set_option maxHeartbeats 16000000 in
set_option maxRecDepth 100000 in
theorem built_new : built_split.2.2.2.1 := by
  intro os g off cap w i0 j0 HO HI HJ zQ1 zK2 za3 gk wr u7 u8 u9 u10 u11 u12 u13 u14 u15 u16 u17 u18 u19 u20 u21 u22 u23 u24 u25 u26 u27 u28 u29 u30 u31 u32 zu334 zu345 zu356 zu367 zu378 zu389 zu3910 zu4011 zu4112 zu4213 zu4314 zu4415 u45 u46 u47 u48 u49 u50 u51 u52 u53 u54 u55 u56 u57 u58 u59 u60 u61 u62 u63 u64 u65 u66 u67 u68 u69 u70 u71 u72 u73 u74 u75 u76 u77 u78 u79 u80 u81 u82 u83 u84 u85 u86 u87 u88 u89 u90 u91 u92 u93 u94 u95 u96 u97 u98 u99 u100 u101 u102 u103 u104 u105 u106 u107 u108 u109 u110 u111 u112 u113 u114 u115 u116 u117 u118 u119 u120 u121 u122 u123 u124 u125 u126 u127 u128 u129 u130 u131 u132 u133 u134 u135 u136 u137 u138 u139 u140 zJ16 zK17 za18 za19 i us vs cs HK hi1 hi2 ga ca gb cb hul hu30 hlt hlt2 kind code place word far HH zh20 zK21 za22 u33 u34 u35 u36 u37 s hs8 zK23 za24 u38 u39 u40 u41 u42 u43 u44 c hcr HL hpl wx q HP HQ m0 m1 m2 kk hb7 hb0 hb8 hk
  have e3 : (kk == 3) = false := by simp; omega
  have e4 : (kk == 4) = false := by simp; omega
  have e5 : (kk == 5) = false := by simp; omega
  have e6 : (kk == 6) = false := by simp; omega
  have e7 : (kk == 7) = false := by simp; omega
  clear hk hb0 hb8
  go_upto_region 15 with fail
  go_cut [4] from 14 to 140 (fun a' w' => ∃ g' ca' vs', a' = .slice (some ⟨g', 0, none⟩) (us.length + 1) ca' ∧ Hid (Piles w w' a' (.slice gb us.length cb) (us ++ [codeO c]) us vs' cs))
  case first =>
    go_wp2_with (go_at_call 26; refine (New_rep (Own (.slice ga us.length ca) (.slice gb us.length cb)) c _ hcr.1 hcr.2).mono ?_)
    intro e w1 v he hv hw
    subst he hw
    have HV := Lib.hid hv
    rcases hv.forms with rfl | ⟨u, x, rfl⟩
    all_goals
      clear hv
      go_wp2_with (at_builtin; go_loud (refine wpList_append_lies _ rfl _ _ 24 rfl w.heap.size 31 j0 .nilIface 1 16 Tryd.underlying24 HJ.out.1 HJ.out.2.1 HJ.out.2.2.1 HJ.out.2.2.2 rfl (by decide) _ _ _ rfl (HP.out.owna.alloc _) ⟨w1.heap.size, 0, none⟩ 1 1 _ rfl rfl (cell_one_here _ _ _ _ rfl) (by simp [Value.oneCell']) (by decide) (by unfold maxLen; omega) (by omega) (by have := HP.out.below.size; simp; omega) _ rfl ?g2))
      case g2 =>
        intro g' ca' w2 hown hg hat hlt'
        clear hlt'
        have HN := Lib.hid (Piles.newA (HP.out.ext ((Ext.refl w1).alloc _)) hg (at_new hat (by simp)) (ua' := us ++ [codeO c]) (by rw [List.length_append]; exact hown) (RepsA.snoc (by have := HP.out.owna.1; omega) (HP.out.ext ((Ext.refl w1).alloc _)).repa (RepOS.kept (((Ext.refl w1).alloc _).but _) (fun _ h => .inl h) HV.out)))
        clear hown hg hat
        go_wp2
        go_meet
        case rel => exact ⟨_, _, _, rfl, HN⟩
  case rest =>
    obtain ⟨g', ca', vs', rfl, HP'⟩ := hcut
    go_wp2_with (go_at_call 37; refine (refNew_rep (Own (.slice (some ⟨g', 0, none⟩) (us.length + 1) ca') (.slice gb us.length cb)) c _).mono ?_)
    intro e w1 ds he hv hx1
    subst he
    obtain ⟨n1, n2, n3, n4, n5, n6, n7, rfl, _⟩ := hv.form
    have HP1 := Lib.hid (HP'.out.ext hx1)
    have HV := Lib.hid hv
    clear hv hx1
    go_wp2_with (at_builtin; go_loud (refine wpList_append_lies _ rfl _ _ 25 rfl w.heap.size 37 i0 (.agg #[.int .i64 0, .int .i64 0, .int .i64 0, .string ⟨#[]⟩, .slice none 0 0]) 5 64 Tryd.underlying25 HI.out.1 HI.out.2.1 HI.out.2.2.1 HI.out.2.2.2 rfl (by decide) _ _ _ rfl (HP1.out.ownb.alloc _) ⟨w1.heap.size, 0, none⟩ 1 1 [.int .i64 n1, .int .i64 n2, .int .i64 n3, .string n4, .slice n5 n6 n7] rfl rfl ?g1 (by simp [Value.oneCell']) (by decide) (by unfold maxLen; omega) (by omega) (by have := HP1.out.below.size; simp; omega) _ rfl ?g2))
    case g1 => exact cells_new_add w1 [.int .i64 n1, .int .i64 n2, .int .i64 n3, .string n4, .slice n5 n6 n7] 37
    case g2 =>
      intro g2 cb' w2 hown hg hat hlt'
      clear hlt'
      have HN := Lib.hid (Piles.newB (HP1.out.ext ((Ext.refl w1).alloc _)) hg (at_new hat (by simp)) (ub' := us ++ [codeO c]) (by rw [List.length_append]; exact hown) (RepsB.snoc (by have := HP1.out.ownb.1; omega) (HP1.out.ext ((Ext.refl w1).alloc _)).repb rfl (RefO.kept (((Ext.refl w1).alloc _).but _) (fun _ h => .inl h) HV.out)))
      clear hown hg hat
      go_wp2
      go_roundg (gk - 1)
      case measure => have := HK.out; omega
      case rel =>
        refine ⟨i + 1, us ++ [codeO c], _, _, by have := HK.out; omega, by go_num, HN.out, ?_, ?_, HL.out.2.2.snoc (good_code c)⟩
        · rw [List.length_append]; have := HL.out.1; simp; omega
        · rw [tsum_append]
          have h1 := tlen_code c hcr.1 hcr.2
          have h2 := HL.out.2.1
          simp only [tsum]; omega
end Go.Proofs.YtlcnicgjlddldaaDoor
