/- The law NumsReads: the walk, but for the last test of a round. -/
import Derived.Test.YtcfboalepnbifaaDoorReadsKit
import Derived.Test.YtcfboalepnbifaaDoorAwakeN
import Derived.Deep.CutRange
import Derived.Deep.CutBlock
namespace Go.Proofs.YtcfboalepnbifaaDoor
open Go Go.RowKit

/-- A read. -/
structure CallN where
  kind : Int
  least : Int
  most : Int
def IsCalls (w : World) (v : Value) (cs : List CallN) : Prop :=
  ∃ A c, v = .slice A cs.length c ∧ ∀ i k, cs[i]? = some k → ∃ g off, A = some ⟨g, off, none⟩ ∧ w.cell? ⟨g, off + i * 3, none⟩ = some (.int .i64 k.kind) ∧ w.cell? ⟨g, off + i * 3 + 1, none⟩ = some (.int .i64 k.least) ∧ w.cell? ⟨g, off + i * 3 + 2, none⟩ = some (.int .i64 k.most)
/-- What holds of the two rows between two reads. -/
def TwoRows (w0 w : World) (g h : Nat) (s : ByteArray) (p : Nat) (c : Int) : Prop :=
  RowAt w g s p c ∧ RefAt w h s p c ∧ p ≤ s.size ∧ okC c ∧ Ext w0 w
/-- What the loads of the last test read. -/
def TZ (W0 : World) (hb : Nat) (p : Nat) (c : Int) (W : World) : Prop := W.cell? ⟨hb, 1, none⟩ = some (.int .i64 p) ∧ W.cell? ⟨hb, 2, none⟩ = some (.int .i64 c) ∧ Ext W0 W
theorem TZ.drew {W0 : World} {hb p : Nat} {c : Int} {W : World} (h : TZ W0 hb p c W) : TZ W0 hb p c W.drew := ⟨h.1, h.2.1, h.2.2.drew⟩
theorem tz_calls {f : FuncId} {args : Array Value} {W0 : World} {hb p : Nat} {c : Int} {r : Value} (hf : ∀ W, Ext W0 W → Calls Tryd.prog f args W fun e w' => e = .returned r ∧ Ext W w') (W : World) (h : TZ W0 hb p c W) :
    Calls Tryd.prog f args W fun e w' => e = .returned r ∧ TZ W0 hb p c w' :=
  (hf W h.2.2).mono fun _ _ ⟨he, hx⟩ => ⟨he, hx.cell h.1, hx.cell h.2.1, h.2.2.trans hx⟩
theorem TwoRows.ext {w0 w w' : World} {g h : Nat} {s : ByteArray} {p : Nat} {c : Int} (ht : TwoRows w0 w g h s p c) (hx : Ext w w') : TwoRows w0 w' g h s p c :=
  ⟨ht.1.ext hx, ht.2.1.ext hx, ht.2.2.1, ht.2.2.2.1, ht.2.2.2.2.trans hx⟩
theorem endC_bad (s : ByteArray) (p : Nat) {c : Int} (h : c ≠ 0) : endC s p c = c := if_pos h
theorem endC_left (s : ByteArray) (p : Nat) (h : p < s.size) : endC s p 0 = 10 := by unfold endC; rw [if_neg (by simp), if_pos h]
theorem endC_done (s : ByteArray) (p : Nat) (h : p = s.size) : endC s p 0 = 0 := by unfold endC; rw [if_neg (by simp), if_neg (by omega)]
def ReadsGoal : Prop := ∀ (cs : List CallN) (v : Value) (s : ByteArray) (w : World), IsCalls w v cs → cs.length ≤ maxLen → ErrType w →
    Calls Tryd.prog 3 #[.string s, v] w fun e w' => e = .returned (.bool true) ∧ Ext w w'
set_option maxHeartbeats 16000000 in
set_option maxRecDepth 100000 in
/-- The walk up to the last test of a round, behind a failure, ahead of the end, and at the end: what each has to show is left as a proposition. -/
noncomputable def reads_split : (P1 : Prop) ×' (P2 : Prop) ×' (P3 : Prop) ×' (Hid P1 → Hid P2 → Hid P3 → ReadsGoal) := by
  apply PSigma.mk
  apply PSigma.mk
  apply PSigma.mk
  · intro hh1 hh2 hh3 cs v s w hv hm hg
    obtain ⟨A, cc, rfl, hc⟩ := hv
    unfold maxLen at hm
    have H := Lib.hid (And.intro hc hg); clear hc hg
    go_enter Tryd.func3, Tryd.ntmps3
    go_wp2_with fail
    refine (awakeN_true _).mono ?_
    rintro e w1 ⟨rfl, hx1⟩
    have H1 := Lib.hid hx1; clear hx1
    go_wp2_with fail
    refine (shortN_of s 80 _ (by decide)).mono ?_
    rintro e w2 ⟨rfl, rfl⟩
    have hsz := shortOf_le s 80
    generalize shortOf s 80 = x at hsz ⊢
    go_wp2_with fail
    refine (Of_any x w2 (by omega)).mono ?_
    rintro e w3 ⟨g, rfl, hr3, hx3, hgl⟩
    have hgw : g < w3.heap.size := hr3.lt
    have hgne : w3.heap.size ≠ g := by omega
    have hg0 : w.heap.size ≤ g := Nat.le_trans H1.out.size hgl
    have hh0 : w.heap.size ≤ w3.heap.size := (H1.out.trans hx3).size
    have H3 := Lib.hid (And.intro hr3 (And.intro (H1.out.trans hx3) (And.intro hg0 (And.intro hh0 hgne)))); clear hr3 hx3 hgl hgw hgne hg0 hh0
    have HT0 := Lib.hid (show TwoRows w (w3.alloc (.cells #[.string x, .int .i64 0, .int .i64 0] 30)) g w3.heap.size x 0 0 from ⟨H3.out.1.ext ((Ext.refl _).alloc _), Go.heap_alloc_new _ _, Nat.zero_le _, (show (0 : Int) ≤ 0 ∧ (0 : Int) ≤ 16 by omega), H3.out.2.1.alloc _⟩)
    go_wp2_with fail
    generalize w3.alloc (.cells #[.string x, .int .i64 0, .int .i64 0] 30) = w4 at HT0 ⊢
    generalize hh : w3.heap.size = hb at HT0 H3 ⊢
    have HH := Lib.hid hh; clear hh
    go_loopg [8] (min cs.length 12) (fun k j wr => ∃ (i p : Nat) (c : Int), Hid (i + k = min cs.length 12) ∧ j = .int .i64 i ∧ Hid (TwoRows w wr g hb x p c))
    case atStart => exact ⟨0, 0, 0, Nat.zero_add _, rfl, HT0.out⟩
    case round =>
      obtain ⟨i, p, c, hik, rfl, hinv⟩ := hrel
      by_cases hlt : i < cs.length
      · obtain ⟨k, hin⟩ : ∃ k, cs[i]? = some k := ⟨cs[i], List.getElem?_eq_getElem hlt⟩
        by_cases hlt2 : i < 12
        · obtain ⟨gg, off, rfl, hk0, hk1, hk2⟩ := H.out.1 i k hin
          have k0 := hinv.out.2.2.2.2.cell hk0
          have k1 := hinv.out.2.2.2.2.cell hk1
          have k2 := hinv.out.2.2.2.2.cell hk2
          obtain ⟨kind, least, most⟩ := k
          dsimp only at k0 k1 k2
          clear hk0 hk1 hk2 hin
          obtain ⟨K, hK8, hK⟩ : ∃ K : Nat, K < 8 ∧ bits .and .i64 kind 7 = (K : Int) := by
            refine ⟨(kind % 8).toNat, by omega, ?_⟩
            rw [i64_mask kind 3 (by omega) 7 (by decide)]
            show kind % 8 = _
            omega
          obtain ⟨Q, hQ16, hQ⟩ : ∃ Q : Nat, Q < 16 ∧ bits .and .i64 least 15 = (Q : Int) := by
            refine ⟨(least % 16).toNat, by omega, ?_⟩
            rw [i64_mask least 4 (by omega) 15 (by decide)]
            show least % 16 = _
            omega
          have hBl : ∀ o : Obj, Hid (Duo w g hb wr.heap.size x kind least most p c p c (wr.alloc o)) → Hid True := fun _ _ => trivial
          clear hBl
          have hap : Apart w g hb wr.heap.size := by
            have h1 := hinv.out.1.lt
            have h2 := hinv.out.2.1.lt
            have h3 := H3.out.2.2
            exact ⟨fun e => h3.2.2 e.symm, by omega, by omega, h3.1, h3.2.1⟩
          have hd0 : Duo w g hb wr.heap.size x kind least most p c p c (wr.alloc (.cells #[.int .i64 kind, .int .i64 least, .int .i64 most] 32)) :=
            ⟨hinv.out.1.ext ((Ext.refl _).alloc _), hinv.out.2.1.ext ((Ext.refl _).alloc _), by rw [Lib.cell_of_heap (Go.heap_alloc_new _ _)]; rfl, by rw [Lib.cell_of_heap (Go.heap_alloc_new _ _)]; rfl, by rw [Lib.cell_of_heap (Go.heap_alloc_new _ _)]; rfl, hinv.out.2.2.2.2.alloc _⟩
          have HD := Lib.hid (And.intro hap hd0); clear hap hd0
          have HP := Lib.hid (And.intro hinv.out.2.2.1 hinv.out.2.2.2.1)
          go_upto_block 2 with fail
          generalize (wr.alloc (.cells #[.int .i64 kind, .int .i64 least, .int .i64 most] 32)) = wy at HD ⊢
          generalize wr.heap.size = B at HD ⊢
          clear k0 k1 k2
          go_cut [10] from 25 to 168 (fun ok wx => ∃ (p' : Nat) (c' : Int), ok = .bool true ∧ Hid (TwoRows w wx g hb x p' c'))
          case first =>
            have c0 : wy.cell? ⟨B, 0, none⟩ = some (.int .i64 kind) := HD.out.2.2.2.1
            have c1 : wy.cell? ⟨B, 1, none⟩ = some (.int .i64 least) := HD.out.2.2.2.2.1
            have c2 : wy.cell? ⟨B, 2, none⟩ = some (.int .i64 most) := HD.out.2.2.2.2.2.1
            have hpx := HP.out.1
            have hxs : x.size ≤ 1000000 := by omega
            have gD := HD.out.2.drew
            by_cases hK45 : K = 4 ∨ K = 5
            · have hbd := textF_ok x p c most HP.out.1 HP.out.2
              have hA := fun W h => Text_all W g x p c most hxs hpx h
              have hB := fun W h => RefText_all W hb x p c most hxs hpx h
              generalize textF x p c most = R at hbd hA hB
              obtain ⟨S, p2, c2⟩ := R
              dsimp only at hbd hA hB
              have HA := Lib.hid (duo_a (k := kind) (l := least) (m := most) HD.out.1 hA)
              have HB := Lib.hid (duo_b (k := kind) (l := least) (m := most) HD.out.1 hB)
              have HE := Lib.hid hbd
              clear hbd hA hB
              have t45 : ((K : Int) == 4) = true ∨ (((K : Int) == 4) = false ∧ ((K : Int) == 5) = true) := by
                rcases hK45 with h | h
                · left; simp; omega
                · right; exact ⟨by simp; omega, by simp; omega⟩
              clear hK45
              rcases t45 with t45 | ⟨t45, t5⟩
              all_goals
                go_wp2_with fail
                go_region_held3 (fun w' => w'.cell? ⟨B, 2, none⟩ = some (.int .i64 most)) (first | exact gS | go_keep) (first
                  | (go_at_call 10; refine (HA.out _ _ _ (by first | exact gD | exact gD.drew)).mono ?_; rintro e wn ⟨rfl, gD⟩; have gS := gD.2.2.2.2.1)
                  | (go_at_call 11; refine (HB.out _ _ _ (by first | exact gD | exact gD.drew)).mono ?_; rintro e wn ⟨rfl, gD⟩; have gS := gD.2.2.2.2.1))
                all_goals
                  have HF := Lib.hid (show TwoRows w wn g hb x p2 c2 from ⟨gD.1, gD.2.1, HE.out.1, HE.out.2, gD.2.2.2.2.2⟩)
                  clear gS gD
                  go_wp2_with fail
                  go_meet
                  case rel => exact ⟨p2, c2, rfl, HF.out⟩
            · have t4 : ((K : Int) == 4) = false := by simp; omega
              have t5 : ((K : Int) == 5) = false := by simp; omega
              clear hK45
              by_cases hK6 : K = 6
              · have t6 : ((K : Int) == 6) = true := by simp; omega
                clear hK6
                have hbd := numF_ok x p c 0 most HP.out.1 HP.out.2
                have hA := fun W h => Count_all W g x p c most hxs hpx h
                have hB := fun W h => RefNum_all W hb x p c 0 most hxs hpx h
                generalize numF x p c 0 most = R at hbd hA hB
                obtain ⟨S, p2, c2⟩ := R
                dsimp only at hbd hA hB
                have HA := Lib.hid (duo_a (k := kind) (l := least) (m := most) HD.out.1 hA)
                have HB := Lib.hid (duo_b (k := kind) (l := least) (m := most) HD.out.1 hB)
                have HE := Lib.hid hbd
                clear hbd hA hB
                go_wp2_with fail
                go_region_held3 (fun w' => w'.cell? ⟨B, 2, none⟩ = some (.int .i64 most)) (first | exact gS | go_keep) (first
                  | (go_at_call 12; refine (HA.out _ _ _ (by first | exact gD | exact gD.drew)).mono ?_; rintro e wn ⟨rfl, gD⟩; have gS := gD.2.2.2.2.1)
                  | (go_at_call 13; refine (HB.out _ _ _ (by first | exact gD | exact gD.drew)).mono ?_; rintro e wn ⟨rfl, gD⟩; have gS := gD.2.2.2.2.1))
                all_goals
                  have HF := Lib.hid (show TwoRows w wn g hb x p2 c2 from ⟨gD.1, gD.2.1, HE.out.1, HE.out.2, gD.2.2.2.2.2⟩)
                  clear gS gD
                  go_wp2_with fail
                  go_meet
                  case rel => exact ⟨p2, c2, rfl, HF.out⟩
              · have t6 : ((K : Int) == 6) = false := by simp; omega
                clear hK6
                by_cases hK7 : K = 7
                · have t7 : ((K : Int) == 7) = true := by simp; omega
                  clear hK7
                  have hA := fun W h => Fail_all W g x p c (Q : Int) h
                  have hB := fun W h => RefFail_all W hb x p c (Q : Int) h
                  have hbd : okC (failF c (Q : Int)) := by
                    have h1 := HP.out.2
                    unfold failF
                    split
                    · show (0 : Int) ≤ (Q : Int) ∧ (Q : Int) ≤ 16; omega
                    · exact h1
                  generalize failF c (Q : Int) = c2' at hbd hA hB
                  have HA := Lib.hid (duo_a (k := kind) (l := least) (m := most) HD.out.1 hA)
                  have HB := Lib.hid (duo_b (k := kind) (l := least) (m := most) HD.out.1 hB)
                  have HE := Lib.hid hbd
                  clear hbd hA hB gD
                  go_wp2_with fail
                  refine (HA.out _ _ wy HD.out.2).mono ?_
                  rintro e w5 ⟨rfl, gD⟩
                  have e1 : w5.cell? ⟨B, 1, none⟩ = some (.int .i64 least) := gD.2.2.2.1
                  have G5 := Lib.hid gD; clear gD
                  go_wp2_with fail
                  refine (HB.out _ _ w5 G5.out).mono ?_
                  rintro e w6 ⟨rfl, gD⟩
                  have HF := Lib.hid (show TwoRows w w6 g hb x p c2' from ⟨gD.1, gD.2.1, HP.out.1, HE.out, gD.2.2.2.2.2⟩)
                  clear gD e1
                  go_wp2_with fail
                  go_meet
                  case rel => exact ⟨p, c2', rfl, HF.out⟩
                · have t7 : ((K : Int) == 7) = false := by simp; omega
                  clear hK7
                  have hbd := numF_ok x p c least most HP.out.1 HP.out.2
                  have hA := fun W h => Num_all W g x p c least most hxs hpx h
                  have hB := fun W h => RefNum_all W hb x p c least most hxs hpx h
                  generalize numF x p c least most = R at hbd hA hB
                  obtain ⟨S, p2, c2⟩ := R
                  dsimp only at hbd hA hB
                  have HA := Lib.hid (duo_a (k := kind) (l := least) (m := most) HD.out.1 hA)
                  have HB := Lib.hid (duo_b (k := kind) (l := least) (m := most) HD.out.1 hB)
                  have HE := Lib.hid hbd
                  clear hbd hA hB
                  go_wp2_with fail
                  go_region_held3 (fun w' => w'.cell? ⟨B, 1, none⟩ = some (.int .i64 least) ∧ w'.cell? ⟨B, 2, none⟩ = some (.int .i64 most)) (first | exact gS | go_keep) (first
                    | (go_at_call 16; refine (HA.out _ _ _ (by first | exact gD | exact gD.drew)).mono ?_; rintro e wn ⟨rfl, gD⟩; have gS := And.intro gD.2.2.2.1 gD.2.2.2.2.1)
                    | (go_at_call 13; refine (HB.out _ _ _ (by first | exact gD | exact gD.drew)).mono ?_; rintro e wn ⟨rfl, gD⟩; have gS := And.intro gD.2.2.2.1 gD.2.2.2.2.1))
                  all_goals
                    have HF := Lib.hid (show TwoRows w wn g hb x p2 c2 from ⟨gD.1, gD.2.1, HE.out.1, HE.out.2, gD.2.2.2.2.2⟩)
                    clear gS gD
                    go_wp2_with fail
                    go_meet
                    case rel => exact ⟨p2, c2, rfl, HF.out⟩
          case rest =>
            obtain ⟨p', c', rfl, hcut⟩ := hcut
            have hps : p' ≤ x.size := hcut.out.2.2.1
            by_cases hc' : c' = 0
            · subst hc'
              by_cases hp' : p' < x.size
              · have HT := Lib.hid (And.intro hcut.out hp')
                rename_i zQ1 zK2 za3 zu4 zu5 zu6 zu7 zu8 zu9 zu10 zu11 zu12 zu13 zu14 zu15 zu16 zu17 zu18 zu19 zu20 zu21 zu22 zu23 zu24 zu25 zu26 zu27 zu28 zu29 zu30 zu31 zu32 zu33 zu34 zu35 zu36 zu37 zu38 zu39 zu40 zu41 zu42 zu43 zu44 zu45 zu46 zu47 zu48 zu49 zu50 zu51 zu52 zu53 zu54 zu55 zu56 zu57 zu58 zu59 zu60 zu61 zu62 zu63 zu64 zu65 zu66 zu67 zu68 zu69 zu70 zu71 zu72 zu73 zu74 zu75 zu76 zu77 zu78 zu79 zu80 zu81 zu82 zu83 zu84 zu85 zu86 zu87 zu88 zu89 zu90 zu91 zu92 zu93 zu94 zu95 zu96 zu97 zu98 zu99 zu100 zu101 zu102 zu103 zu104 zu105 zu106 zu107 zu108 zu109 zu110 zu111 zu112 zu113 zu114 zu115 zu116 zu117 zu118 zu119 zu120 zu121 zu122 zu123 zu124 zu125 zu126 zu127 zu128 zu129 zu130 zu131 zu132 zu133 zu134 zu135 zu136 zu137 zu138 zu139 zu140 zu141 zu142 zu143 zu144 zu145 zu146 zu147 zJ148 zK149 za150 za151 zh152 zK153 za154 zK155 za156
                revert cs s w hm cc zQ1 w2 H1 x hsz w3 g zK2 za3 w4 hb HT0 H3 HH gk wr u4 u9 u10 u11 u12 u13 u14 zu4 zu5 zu6 zu7 zu8 zu9 zu10 zu11 zu12 zu13 zu14 zu15 zu16 zu17 zu18 zu19 zu20 zu21 zu22 zu23 zu24 zu25 zu26 zu27 zu28 zu29 zu30 zu31 zu32 zu33 zu34 zu35 zu36 zu37 zu38 zu39 zu40 zu41 zu42 zu43 zu44 zu45 zu46 zu47 zu48 zu49 zu50 zu51 zu52 zu53 zu54 zu55 zu56 zu57 zu58 zu59 zu60 zu61 zu62 zu63 zu64 zu65 zu66 zu67 zu68 zu69 zu70 zu71 zu72 zu73 zu74 zu75 zu76 zu77 zu78 zu79 zu80 zu81 zu82 zu83 zu84 zu85 zu86 zu87 zu88 zu89 zu90 zu91 zu92 zu93 zu94 zu95 zu96 zu97 zu98 zu99 zu100 zu101 zu102 zu103 zu104 zu105 zu106 zu107 zu108 zu109 zu110 zu111 zu112 zu113 zu114 zu115 zu116 zu117 zu118 zu119 zu120 zu121 zu122 zu123 zu124 zu125 zu126 zu127 zu128 zu129 zu130 zu131 zu132 zu133 zu134 zu135 zu136 zu137 zu138 zu139 zu140 zu141 zu142 zu143 zu144 zu145 zu146 zu147 zJ148 zK149 za150 i p c hik hinv hlt hlt2 gg off H za151 kind least most K hK8 hK Q hQ16 hQ HP zh152 zK153 za154 zK155 za156 wy B HD wc u25 u26 u27 u28 u29 u30 u31 u32 u33 u34 u35 u36 u37 u38 u39 u40 u41 u42 u43 u44 u45 u46 u47 u48 u49 u50 u51 u52 u53 u54 u55 u56 u57 u58 u59 u60 u61 u62 u63 u64 u65 u66 u67 u68 u69 u70 u71 u72 u73 u74 u75 u76 u77 u78 u79 u80 u81 u82 u83 u84 u85 u86 u87 u88 u89 u90 u91 u92 u93 u94 u95 u96 u97 u98 u99 u100 u101 u102 u103 u104 u105 u106 u107 u108 u109 u110 u111 u112 u113 u114 u115 u116 u117 u118 u119 u120 u121 u122 u123 u124 u125 u126 u127 u128 u129 u130 u131 u132 u133 u134 u135 u136 u137 u138 u139 u140 u141 u142 u143 u144 u145 u146 u147 u148 u149 u150 u151 u152 u153 u154 u155 u156 u157 u158 u159 u160 u161 u162 u163 u164 u165 u166 u167 u168 p' hps hcut hp' HT
                exact hh2.out
              · have HT := Lib.hid (And.intro hcut.out (show p' = x.size by omega))
                rename_i zQ1 zK2 za3 zu4 zu5 zu6 zu7 zu8 zu9 zu10 zu11 zu12 zu13 zu14 zu15 zu16 zu17 zu18 zu19 zu20 zu21 zu22 zu23 zu24 zu25 zu26 zu27 zu28 zu29 zu30 zu31 zu32 zu33 zu34 zu35 zu36 zu37 zu38 zu39 zu40 zu41 zu42 zu43 zu44 zu45 zu46 zu47 zu48 zu49 zu50 zu51 zu52 zu53 zu54 zu55 zu56 zu57 zu58 zu59 zu60 zu61 zu62 zu63 zu64 zu65 zu66 zu67 zu68 zu69 zu70 zu71 zu72 zu73 zu74 zu75 zu76 zu77 zu78 zu79 zu80 zu81 zu82 zu83 zu84 zu85 zu86 zu87 zu88 zu89 zu90 zu91 zu92 zu93 zu94 zu95 zu96 zu97 zu98 zu99 zu100 zu101 zu102 zu103 zu104 zu105 zu106 zu107 zu108 zu109 zu110 zu111 zu112 zu113 zu114 zu115 zu116 zu117 zu118 zu119 zu120 zu121 zu122 zu123 zu124 zu125 zu126 zu127 zu128 zu129 zu130 zu131 zu132 zu133 zu134 zu135 zu136 zu137 zu138 zu139 zu140 zu141 zu142 zu143 zu144 zu145 zu146 zu147 zJ148 zK149 za150 za151 zh152 zK153 za154 zK155 za156
                revert cs s w hm cc zQ1 w2 H1 x hsz w3 g zK2 za3 w4 hb HT0 H3 HH gk wr u4 u9 u10 u11 u12 u13 u14 zu4 zu5 zu6 zu7 zu8 zu9 zu10 zu11 zu12 zu13 zu14 zu15 zu16 zu17 zu18 zu19 zu20 zu21 zu22 zu23 zu24 zu25 zu26 zu27 zu28 zu29 zu30 zu31 zu32 zu33 zu34 zu35 zu36 zu37 zu38 zu39 zu40 zu41 zu42 zu43 zu44 zu45 zu46 zu47 zu48 zu49 zu50 zu51 zu52 zu53 zu54 zu55 zu56 zu57 zu58 zu59 zu60 zu61 zu62 zu63 zu64 zu65 zu66 zu67 zu68 zu69 zu70 zu71 zu72 zu73 zu74 zu75 zu76 zu77 zu78 zu79 zu80 zu81 zu82 zu83 zu84 zu85 zu86 zu87 zu88 zu89 zu90 zu91 zu92 zu93 zu94 zu95 zu96 zu97 zu98 zu99 zu100 zu101 zu102 zu103 zu104 zu105 zu106 zu107 zu108 zu109 zu110 zu111 zu112 zu113 zu114 zu115 zu116 zu117 zu118 zu119 zu120 zu121 zu122 zu123 zu124 zu125 zu126 zu127 zu128 zu129 zu130 zu131 zu132 zu133 zu134 zu135 zu136 zu137 zu138 zu139 zu140 zu141 zu142 zu143 zu144 zu145 zu146 zu147 zJ148 zK149 za150 i p c hik hinv hlt hlt2 gg off H za151 kind least most K hK8 hK Q hQ16 hQ HP zh152 zK153 za154 zK155 za156 wy B HD wc u25 u26 u27 u28 u29 u30 u31 u32 u33 u34 u35 u36 u37 u38 u39 u40 u41 u42 u43 u44 u45 u46 u47 u48 u49 u50 u51 u52 u53 u54 u55 u56 u57 u58 u59 u60 u61 u62 u63 u64 u65 u66 u67 u68 u69 u70 u71 u72 u73 u74 u75 u76 u77 u78 u79 u80 u81 u82 u83 u84 u85 u86 u87 u88 u89 u90 u91 u92 u93 u94 u95 u96 u97 u98 u99 u100 u101 u102 u103 u104 u105 u106 u107 u108 u109 u110 u111 u112 u113 u114 u115 u116 u117 u118 u119 u120 u121 u122 u123 u124 u125 u126 u127 u128 u129 u130 u131 u132 u133 u134 u135 u136 u137 u138 u139 u140 u141 u142 u143 u144 u145 u146 u147 u148 u149 u150 u151 u152 u153 u154 u155 u156 u157 u158 u159 u160 u161 u162 u163 u164 u165 u166 u167 u168 p' hps hcut hp' HT
                exact hh3.out
            · have HT := Lib.hid (And.intro hcut.out (And.intro hc' trivial : c' ≠ 0 ∧ True))
              have hz : (c' != 0) = true := by simp; exact hc'
              clear hc'
              rename_i zQ1 zK2 za3 zu4 zu5 zu6 zu7 zu8 zu9 zu10 zu11 zu12 zu13 zu14 zu15 zu16 zu17 zu18 zu19 zu20 zu21 zu22 zu23 zu24 zu25 zu26 zu27 zu28 zu29 zu30 zu31 zu32 zu33 zu34 zu35 zu36 zu37 zu38 zu39 zu40 zu41 zu42 zu43 zu44 zu45 zu46 zu47 zu48 zu49 zu50 zu51 zu52 zu53 zu54 zu55 zu56 zu57 zu58 zu59 zu60 zu61 zu62 zu63 zu64 zu65 zu66 zu67 zu68 zu69 zu70 zu71 zu72 zu73 zu74 zu75 zu76 zu77 zu78 zu79 zu80 zu81 zu82 zu83 zu84 zu85 zu86 zu87 zu88 zu89 zu90 zu91 zu92 zu93 zu94 zu95 zu96 zu97 zu98 zu99 zu100 zu101 zu102 zu103 zu104 zu105 zu106 zu107 zu108 zu109 zu110 zu111 zu112 zu113 zu114 zu115 zu116 zu117 zu118 zu119 zu120 zu121 zu122 zu123 zu124 zu125 zu126 zu127 zu128 zu129 zu130 zu131 zu132 zu133 zu134 zu135 zu136 zu137 zu138 zu139 zu140 zu141 zu142 zu143 zu144 zu145 zu146 zu147 zJ148 zK149 za150 za151 zh152 zK153 za154 zK155 za156
              revert cs s w hm cc zQ1 w2 H1 x hsz w3 g zK2 za3 w4 hb HT0 H3 HH gk wr u4 u9 u10 u11 u12 u13 u14 zu4 zu5 zu6 zu7 zu8 zu9 zu10 zu11 zu12 zu13 zu14 zu15 zu16 zu17 zu18 zu19 zu20 zu21 zu22 zu23 zu24 zu25 zu26 zu27 zu28 zu29 zu30 zu31 zu32 zu33 zu34 zu35 zu36 zu37 zu38 zu39 zu40 zu41 zu42 zu43 zu44 zu45 zu46 zu47 zu48 zu49 zu50 zu51 zu52 zu53 zu54 zu55 zu56 zu57 zu58 zu59 zu60 zu61 zu62 zu63 zu64 zu65 zu66 zu67 zu68 zu69 zu70 zu71 zu72 zu73 zu74 zu75 zu76 zu77 zu78 zu79 zu80 zu81 zu82 zu83 zu84 zu85 zu86 zu87 zu88 zu89 zu90 zu91 zu92 zu93 zu94 zu95 zu96 zu97 zu98 zu99 zu100 zu101 zu102 zu103 zu104 zu105 zu106 zu107 zu108 zu109 zu110 zu111 zu112 zu113 zu114 zu115 zu116 zu117 zu118 zu119 zu120 zu121 zu122 zu123 zu124 zu125 zu126 zu127 zu128 zu129 zu130 zu131 zu132 zu133 zu134 zu135 zu136 zu137 zu138 zu139 zu140 zu141 zu142 zu143 zu144 zu145 zu146 zu147 zJ148 zK149 za150 i p c hik hinv hlt hlt2 gg off H za151 kind least most K hK8 hK Q hQ16 hQ HP zh152 zK153 za154 zK155 za156 wy B HD wc u25 u26 u27 u28 u29 u30 u31 u32 u33 u34 u35 u36 u37 u38 u39 u40 u41 u42 u43 u44 u45 u46 u47 u48 u49 u50 u51 u52 u53 u54 u55 u56 u57 u58 u59 u60 u61 u62 u63 u64 u65 u66 u67 u68 u69 u70 u71 u72 u73 u74 u75 u76 u77 u78 u79 u80 u81 u82 u83 u84 u85 u86 u87 u88 u89 u90 u91 u92 u93 u94 u95 u96 u97 u98 u99 u100 u101 u102 u103 u104 u105 u106 u107 u108 u109 u110 u111 u112 u113 u114 u115 u116 u117 u118 u119 u120 u121 u122 u123 u124 u125 u126 u127 u128 u129 u130 u131 u132 u133 u134 u135 u136 u137 u138 u139 u140 u141 u142 u143 u144 u145 u146 u147 u148 u149 u150 u151 u152 u153 u154 u155 u156 u157 u158 u159 u160 u161 u162 u163 u164 u165 u166 u167 u168 p' c' hcut hps HT hz
              exact hh1.out
        · have hge : (12 : Int) ≤ (i : Int) := by omega
          go_wp2
          go_ret
          exact ⟨rfl, hinv.out.2.2.2.2⟩
      · go_wp2
        go_ret
        exact ⟨rfl, hinv.out.2.2.2.2⟩
end Go.Proofs.YtcfboalepnbifaaDoor
