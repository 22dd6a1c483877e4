/- The law NumsReads: the last test of a round, ahead of the end. -/
import Derived.Test.YtcfboalepnbifaaDoorReadsS
import Derived.Test.YtcfboalepnbifaaDoorClass
namespace Go.Proofs.YtcfboalepnbifaaDoor
open Go Go.RowKit

set_option maxHeartbeats 16000000 in
set_option maxRecDepth 100000 in
theorem reads_left : reads_split.2.1 := by
  intro cs s w hm cc zQ1 w2 H1 x hsz w3 g zK2 za3 w4 hb HT0 H3 HH gk wr u4 u9 u10 u11 u12 u13 u14 zu4 zu5 zu6 zu7 zu8 zu9 zu10 zu11 zu12 zu13 zu14 zu15 zu16 zu17 zu18 zu19 zu20 zu21 zu22 zu23 zu24 zu25 zu26 zu27 zu28 zu29 zu30 zu31 zu32 zu33 zu34 zu35 zu36 zu37 zu38 zu39 zu40 zu41 zu42 zu43 zu44 zu45 zu46 zu47 zu48 zu49 zu50 zu51 zu52 zu53 zu54 zu55 zu56 zu57 zu58 zu59 zu60 zu61 zu62 zu63 zu64 zu65 zu66 zu67 zu68 zu69 zu70 zu71 zu72 zu73 zu74 zu75 zu76 zu77 zu78 zu79 zu80 zu81 zu82 zu83 zu84 zu85 zu86 zu87 zu88 zu89 zu90 zu91 zu92 zu93 zu94 zu95 zu96 zu97 zu98 zu99 zu100 zu101 zu102 zu103 zu104 zu105 zu106 zu107 zu108 zu109 zu110 zu111 zu112 zu113 zu114 zu115 zu116 zu117 zu118 zu119 zu120 zu121 zu122 zu123 zu124 zu125 zu126 zu127 zu128 zu129 zu130 zu131 zu132 zu133 zu134 zu135 zu136 zu137 zu138 zu139 zu140 zu141 zu142 zu143 zu144 zu145 zu146 zu147 zJ148 zK149 za150 i p c hik hinv hlt hlt2 gg off H za151 kind least most K hK8 hK Q hQ16 hQ HP zh152 zK153 za154 zK155 za156 wy B HD wc u25 u26 u27 u28 u29 u30 u31 u32 u33 u34 u35 u36 u37 u38 u39 u40 u41 u42 u43 u44 u45 u46 u47 u48 u49 u50 u51 u52 u53 u54 u55 u56 u57 u58 u59 u60 u61 u62 u63 u64 u65 u66 u67 u68 u69 u70 u71 u72 u73 u74 u75 u76 u77 u78 u79 u80 u81 u82 u83 u84 u85 u86 u87 u88 u89 u90 u91 u92 u93 u94 u95 u96 u97 u98 u99 u100 u101 u102 u103 u104 u105 u106 u107 u108 u109 u110 u111 u112 u113 u114 u115 u116 u117 u118 u119 u120 u121 u122 u123 u124 u125 u126 u127 u128 u129 u130 u131 u132 u133 u134 u135 u136 u137 u138 u139 u140 u141 u142 u143 u144 u145 u146 u147 u148 u149 u150 u151 u152 u153 u154 u155 u156 u157 u158 u159 u160 u161 u162 u163 u164 u165 u166 u167 u168 p' hps hcut hp' HT
  go_wp2_with fail
  refine ((fun hW => Err_ok wc g x p' (HT.out.1.1.ext hW)) (Ext.refl wc)).mono ?_
  rintro e w5 ⟨rfl, hx5⟩
  have HX5 := Lib.hid hx5; clear hx5
  go_wp2_with fail
  refine (Place_nil _).mono ?_
  rintro e w6 ⟨rfl, hx6⟩
  have HX6 := Lib.hid (HX5.out.trans hx6); clear hx6
  go_wp2_with fail
  refine ((fun hW => End_left w6 g x p' HT.out.2 (HT.out.1.1.ext hW)) HX6.out).mono ?_
  rintro e w7 ⟨rfl, hx7⟩
  have HX7 := Lib.hid (HX6.out.trans hx7); clear hx7
  go_wp2_with fail
  refine (Place_placed 10 p' _ (by omega) (by omega)).mono ?_
  rintro e w8 ⟨rfl, hx8⟩
  have HX8 := Lib.hid (HX7.out.trans hx8); clear hx8
  have hr := HT.out.1.2.1.ext HX8.out
  have gS : TZ w8 hb p' 0 w8 := ⟨hr.cell 1, hr.cell 2, Ext.refl w8⟩
  have gT := gS.drew
  have b1 : w8.cell? ⟨hb, 1, none⟩ = some (.int .i64 p') := gS.1
  have b2 : w8.cell? ⟨hb, 2, none⟩ = some (.int .i64 0) := gS.2.1
  have E0 := Ext.refl w8
  have FA := Lib.hid (tz_calls (W0 := w8) (hb := hb) (p := p') (c := 0) (fun W hW => (At_row W g x p' 0 (HT.out.1.1.ext (HX8.out.trans hW))).mono fun e w' ⟨he, hw⟩ => ⟨he, hw ▸ Ext.refl W⟩))
  have FE := Lib.hid (tz_calls (W0 := w8) (hb := hb) (p := p') (c := 0) (fun W hW0 => (fun hW => Err_ok W g x p' (HT.out.1.1.ext hW)) (HX8.out.trans hW0)))
  have FN := Lib.hid (tz_calls (W0 := w8) (hb := hb) (p := p') (c := 0) (fun W hW0 => (fun hW => End_left W g x p' HT.out.2 (HT.out.1.1.ext hW)) (HX8.out.trans hW0)))
  have FC := Lib.hid (tz_calls (W0 := w8) (hb := hb) (p := p') (c := 0) (fun W hW0 => (fun (hW : Ext wc W) => Code_nil W) (HX8.out.trans hW0)))
  have FD := Lib.hid (tz_calls (W0 := w8) (hb := hb) (p := p') (c := 0) (fun W hW0 => (fun (hW : Ext wc W) => Code_placed 10 p' W ((H.out.2.ext HT.out.1.2.2.2.2).ext hW) (by decide) (by decide) (by decide) (by omega) (by omega)) (HX8.out.trans hW0)))
  have FR := Lib.hid (tz_calls (W0 := w8) (hb := hb) (p := p') (c := 0) (fun W hW0 => (fun (hW : Ext wc W) => RefEnd_any W hb x p' 0 (HT.out.1.2.1.ext hW)) (HX8.out.trans hW0)))
  rw [endC_left x p' HT.out.2] at FR
  clear hr
  go_wp2_with fail
  simp only [List.append]
  have z1 : ∀ n : In (TZ w8 hb p' 0), n.val.cell? ⟨hb, 1, none⟩ = some (.int .i64 p') := fun n => n.prop.1
  have z2 : ∀ n : In (TZ w8 hb p' 0), n.val.cell? ⟨hb, 2, none⟩ = some (.int .i64 0) := fun n => n.prop.2.1
  have hne : Nonempty (In (TZ w8 hb p' 0)) := ⟨⟨_, gT⟩⟩
  clear b1 b2
  refine wp_region_class (TZ w8 hb p' 0) (by kernel_rfl) (by kernel_rfl) gT ?_
  repeat (go_big_quiet_step (first
      | (go_at_call 20; exact quiet_class FA.out _)
      | (go_at_call 18; exact quiet_class FE.out _)
      | (go_at_call 19; exact quiet_class FN.out _)
      | (go_at_call 22; exact quiet_class FR.out _)
      | (go_at_call_of 21 (Value.nilIface); exact quiet_class FC.out _)
      | (go_at_call 21; exact quiet_class FD.out _)))
  refine wpQuiet_nil ?_
  rintro _ ⟨n, rfl⟩
  have hn := n.prop
  generalize n.val = w9 at hn ⊢
  have HF := Lib.hid (HT.out.1.ext (HX8.out.trans hn.2.2))
  clear hn z1 z2 hne gS E0 FA FE FN FC FR gT FD
  go_wp2_with fail
  go_roundg (gk - 1)
  case measure => have := hik.out; omega
  case rel =>
    refine ⟨i + 1, p', 0, ?_, by go_num, HF.out⟩
    show i + 1 + (gk - 1) = min cs.length 12
    have := hik.out; omega
end Go.Proofs.YtcfboalepnbifaaDoor
