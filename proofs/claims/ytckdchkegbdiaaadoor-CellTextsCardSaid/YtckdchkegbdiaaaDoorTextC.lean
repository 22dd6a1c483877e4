/- A row's characters, without blanks at the end: cell.Text. -/
import Derived.Test.YtckdchkegbdiaaaDoorRight
import Derived.Test.YtckdchkegbdiaaaDoorCelRuns
import Derived.Test.YtckdchkegbdiaaaDoorAppRune
import Derived.Test.YtckdchkegbdiaaaDoorRunesEnc
import Derived.Test.YtckdchkegbdiaaaDoorRunesRef
namespace Go.Proofs.YtckdchkegbdiaaaDoor
open Go Go.RowKit

theorem charsL_take (l : List Cel) (i : Nat) (c : Cel) (h : l[i]? = some c) : charsL (l.take (i + 1)) = charsL (l.take i) ++ charsL [c] := by rw [List.take_add_one, h, charsL_append]; rfl
theorem charsL_bad {c : Cel} (h : c.check = false) : charsL [c] = [63] := by simp [charsL, h]
theorem charsL_tail {c : Cel} (h : c.check = true) (h2 : c.tl = true) : charsL [c] = [] := by simp [charsL, h, h2]
theorem charsL_good {c : Cel} (h : c.check = true) (h2 : c.tl = false) : charsL [c] = [c.r] := by simp [charsL, h, h2]
theorem charsL_i32 {l : List Cel} (h : ∀ c, c ∈ l → c.ok) : ∀ n, n ∈ charsL l → isI32 n := by
  intro n hn
  obtain ⟨c, hc, e⟩ := List.mem_filterMap.1 hn
  split at e
  · split at e
    · cases e
    · injection e with e; rw [← e]; exact (h c hc).1
  · injection e with e; rw [← e]; unfold isI32; omega
set_option maxHeartbeats 4000000 in
set_option maxRecDepth 100000 in
theorem TextC_of (l : List Cel) (v : Value) (w : World) (hv : IsCells w v l) (hS : Spans w) (hm : l.length ≤ 1000) : Calls Tryd.prog 32 #[v] w fun e w' => e = .returned (.string (encS (stripL (charsL l)))) ∧ Ext w w' := by
  obtain ⟨i0, hi0, hz0, hz1, hz2⟩ := info_parts infoRune
  obtain ⟨A, c, rfl, hlc, hA⟩ := hv.form
  generalize hL : l.length = L at hlc hv hm ⊢
  have H := Lib.hid (And.intro hv (And.intro hS hL)); clear hv hS hL
  obtain ⟨R, hR⟩ : ∃ R, R = encS (stripL (charsL l)) := ⟨_, rfl⟩
  rw [← hR]
  have HR := Lib.hid hR; clear hR
  go_enter Tryd.func32, Tryd.ntmps32
  go_wp2_with (refine wpList_make_own w rfl _ _ 57 rfl w.heap.size 21 i0 _ 1 Tryd.underlying57 hi0 hz0 hz1 .i64 .i64 L L rfl rfl rfl (by rw [hz2]; omega) (by unfold maxLen; omega) (Nat.le_refl _) ?_)
  intro w1 hown hg
  have HB := Lib.hid (And.intro hown ((Below.refl w.heap.size w).grown hg (Nat.le_refl _) (fun k hk => by cases hk))); clear hown hg
  go_wp2
  go_loopg [3, 11] L (fun k u v wr => ∃ (i g cap : Nat), v = .int .i64 i ∧ u = .slice (some ⟨g, 0, none⟩) (charsL (l.take i)).length cap ∧ Hid (i + k = L ∧ OwnR wr w.heap.size (.slice (some ⟨g, 0, none⟩) (charsL (l.take i)).length cap) (charsL (l.take i)) ∧ Ext w wr))
  case atStart => exact ⟨0, _, _, rfl, rfl, Nat.zero_add _, HB.out.1, HB.out.2⟩
  case round =>
    obtain ⟨i, g, cap, rfl, rfl, hin⟩ := hrel
    by_cases hi : i < L
    · obtain ⟨x, hx⟩ : ∃ x, l[i]? = some x := ⟨l[i]'(by rw [H.out.2.2]; exact hi), List.getElem?_eq_getElem _⟩
      obtain ⟨hxo, g', off', rfl, hcx⟩ := H.out.1.at hx
      have htk := charsL_take l i x hx
      have hln := charsL_len (l.take i)
      rw [List.length_take] at hln
      have hx3 := hcx.ext hin.out.2.2
      obtain ⟨r, f, b, a⟩ := x
      obtain ⟨k0, k1, k2, k3⟩ := hx3.four
      generalize hD : charsL (l.take i) = D at hin htk hln ⊢
      have HD := Lib.hid (And.intro hD (And.intro htk (And.intro hln (And.intro hxo hx)))); clear hD htk hln hxo hx hcx hx3
      generalize hN : D.length = N at hin ⊢
      have HN := Lib.hid hN; clear hN
      go_wp2_with fail
      refine (Check_of ⟨r, f, b, a⟩ _ HD.out.2.2.2.1 ((H.out.2.1.ext hin.out.2.2).ext ((Ext.refl wr).alloc _))).mono ?_
      rintro e w3 ⟨rfl, hx3⟩
      have hcb := (CelAt.new wr ⟨r, f, b, a⟩).ext hx3
      have hx4 := ((Ext.refl wr).alloc (.cells #[.int .i32 r, .int .u8 f, .int .u8 b, .int .u8 a] 25)).trans hx3
      obtain ⟨m0, m1, m2, m3⟩ := hcb.four0
      have H3 := Lib.hid (And.intro (hin.out.2.1.ext hx4) (And.intro (hin.out.2.2.trans hx4) hcb)); clear hx3 hx4 hcb
      clear k0 k1 k2 k3
      generalize hC : Cel.check ⟨r, f, b, a⟩ = C
      have HC := Lib.hid hC; clear hC
      cases C with
      | false =>
        go_wp2_with (at_builtin; refine wpList_app_rune rfl _ _ rfl w.heap.size (.slice (some ⟨g, 0, none⟩) N cap) D rfl (H3.out.1.ext ((Ext.refl w3).alloc _)) w3.heap.size 63 rfl (Lib.cell_of_heap (Go.heap_alloc_new w3 (.cells #[.int .i32 63] 21)) 0) (by have := HD.out.2.2.1; have := HN.out; omega) (H3.out.2.1.alloc _).size ?_)
        intro v' w5 hap
        obtain ⟨g2, cap2, rfl, _, _⟩ := World.ownsRow.form hap.own (by rw [List.length_append]; exact Nat.succ_pos _)
        have hx5 := ext_grown (H3.out.2.1.alloc _) (H3.out.1.ext ((Ext.refl w3).alloc (.cells #[.int .i32 63] 21))) hap.grown (Nat.le_refl _)
        have hdd : D ++ [63] = charsL (l.take (i + 1)) := by rw [HD.out.2.1, charsL_bad HC.out]
        have hown := hap.own
        rw [hdd] at hown ⊢
        have H5 := Lib.hid (And.intro hown hx5); clear hown hx5 hap hdd
        have hgk := hin.out.1
        go_wp2
        go_roundg (gk - 1)
        case measure => omega
        case rel => exact ⟨i + 1, g2, cap2, by go_num, rfl, by show i + 1 + (gk - 1) = L; omega, H5.out.1, H5.out.2⟩
      | true =>
        go_wp2_with fail
        refine (isTail_of ⟨r, f, b, a⟩ _ HD.out.2.2.2.1).mono ?_
        rintro e w4 ⟨rfl, hx⟩
        have hcb := H3.out.2.2.ext hx
        obtain ⟨q0, q1, q2, q3⟩ := hcb.four0
        have h4 := And.intro (H3.out.1.ext hx) (And.intro (H3.out.2.1.trans hx) hcb)
        clear hcb hx m0 m1 m2 m3 H3
        have H3 := Lib.hid h4; clear h4
        generalize hT : Cel.tl ⟨r, f, b, a⟩ = T
        have HT := Lib.hid hT; clear hT
        cases T with
        | true =>
          have hdd : D = charsL (l.take (i + 1)) := by rw [HD.out.2.1, charsL_tail HC.out HT.out, List.append_nil]
          have hNN : N = (charsL (l.take (i + 1))).length := by rw [← hdd]; exact HN.out.symm
          have hown := H3.out.1
          rw [hNN, hdd] at hown
          have H5 := Lib.hid (And.intro hown (And.intro H3.out.2.1 hNN)); clear hown hdd hNN
          have hgk := hin.out.1
          go_wp2_with fail
          go_roundg (gk - 1)
          case measure => omega
          case rel => exact ⟨i + 1, g, cap, by go_num, by rw [← H5.out.2.2], by show i + 1 + (gk - 1) = L; omega, H5.out.1, H5.out.2.1⟩
        | false =>
          go_wp2_with (at_builtin; refine wpList_app_rune rfl _ _ rfl w.heap.size (.slice (some ⟨g, 0, none⟩) N cap) D rfl (H3.out.1.ext ((Ext.refl w4).alloc _)) w4.heap.size r rfl (Lib.cell_of_heap (Go.heap_alloc_new w4 (.cells #[.int .i32 r] 21)) 0) (by have := HD.out.2.2.1; have := HN.out; omega) (H3.out.2.1.alloc _).size ?_)
          intro v' w5 hap
          obtain ⟨g2, cap2, rfl, _, _⟩ := World.ownsRow.form hap.own (by rw [List.length_append]; exact Nat.succ_pos _)
          have hx5 := ext_grown (H3.out.2.1.alloc _) (H3.out.1.ext ((Ext.refl w4).alloc (.cells #[.int .i32 r] 21))) hap.grown (Nat.le_refl _)
          have hdd : D ++ [r] = charsL (l.take (i + 1)) := by rw [HD.out.2.1, charsL_good HC.out HT.out]
          have hown := hap.own
          rw [hdd] at hown ⊢
          have H5 := Lib.hid (And.intro hown hx5); clear hown hx5 hap hdd
          have hgk := hin.out.1
          go_wp2
          go_roundg (gk - 1)
          case measure => omega
          case rel => exact ⟨i + 1, g2, cap2, by go_num, rfl, by show i + 1 + (gk - 1) = L; omega, H5.out.1, H5.out.2⟩
    · have hil : l.take i = l := List.take_of_length_le (by rw [H.out.2.2]; omega)
      rw [hil] at hin ⊢
      have hall := charsL_i32 H.out.1.all
      have hir := hin.out.2.1.isRunes hall
      have hcl := charsL_len l
      rw [H.out.2.2] at hcl
      have HI := Lib.hid (And.intro hir (And.intro hin.out.2.2 hcl)); clear hir hall hcl hil
      go_wp2_with fail
      go_loopg [3] L (fun k u wq => ∃ (zs : List Int) (C : Option Addr) (d : Nat), u = .slice C zs.length d ∧ Hid (zs.length ≤ k ∧ zs.length ≤ L ∧ stripL zs = stripL (charsL l) ∧ IsRunes wq (.slice C zs.length d) zs ∧ Ext w wq))
      case atStart => exact ⟨charsL l, _, cap, rfl, HI.out.2.2, HI.out.2.2, rfl, HI.out.1, HI.out.2.1⟩
      case round =>
        obtain ⟨zs, C, d, rfl, hq⟩ := hrel
        rcases List.eq_nil_or_concat zs with rfl | ⟨ys, z, hzs⟩
        · have hs := hq.out.2.2.1
          have HS := Lib.hid hs; clear hs
          simp only [List.length_nil]
          go_wp2_with fail
          refine (Encode_runes [] _ _ hq.out.2.2.2.1).mono ?_
          rintro e w7 ⟨rfl, rfl⟩
          go_wp2_with fail
          go_ret
          exact ⟨by rw [HR.out, ← HS.out]; rfl, hq.out.2.2.2.2⟩
        · rw [List.concat_eq_append] at hzs
          subst hzs
          have hir := hq.out.2.2.2.1
          have hls : (ys ++ [z]).length = ys.length + 1 := by simp
          obtain ⟨hz1, g3, off3, rfl, hz2⟩ := hir.at (i := ys.length) (m := z) (by simp)
          have hcut := hir.cut ys.length (by omega)
          rw [List.take_left] at hcut
          obtain ⟨hlen1, hlen2⟩ := And.intro hq.out.1 hq.out.2.1
          rw [hls] at hlen1 hlen2 hir ⊢
          have hst1 : z = 32 → stripL ys = stripL (charsL l) := fun e => by rw [← hq.out.2.2.1, e, stripL_last]
          have hst2 : z ≠ 32 → ys ++ [z] = stripL (charsL l) := fun e => by rw [← hq.out.2.2.1, stripL_stop _ _ e]
          have hex := hq.out.2.2.2.2
          have hyd : ys.length + 1 ≤ d := by
            obtain ⟨A5, c5, e5, h5, _⟩ := hir.form
            injection e5 with _ e6 e7
            rw [e7, ← hls]; exact h5
          clear hq
          generalize hY : ys.length = Y at *
          have HY := Lib.hid (And.intro hY (And.intro hir (And.intro hcut (And.intro hst1 (And.intro hst2 hex))))); clear hY hir hcut hls hst1 hst2 hex
          by_cases hz32 : z = 32
          · subst hz32
            go_wp2_with fail
            go_roundg (gk - 1)
            case measure => omega
            case rel => exact ⟨ys, _, d, by rw [HY.out.1], by have := HY.out.1; omega, by have := HY.out.1; omega, by simpa using HY.out.2.2.2.1, by rw [HY.out.1]; exact HY.out.2.2.1, HY.out.2.2.2.2.2⟩
          · have ez : (z == 32) = false := by simpa using hz32
            have hst := HY.out.2.2.2.2.1 hz32
            have HST := Lib.hid hst; clear hst hz32
            go_wp2_with fail
            refine (Encode_runes (ys ++ [z]) _ _ HY.out.2.1).mono ?_
            rintro e w7 ⟨rfl, rfl⟩
            go_wp2_with fail
            go_ret
            exact ⟨by rw [HR.out, ← HST.out]; rfl, HY.out.2.2.2.2.2⟩
set_option maxHeartbeats 4000000 in
set_option maxRecDepth 100000 in
theorem RefTextC_of (l : List Cel) (v : Value) (w : World) (hv : IsCells w v l) (hm : l.length ≤ 1000) : Calls Tryd.prog 40 #[v] w fun e w' => e = .returned (.string (encS (stripL (charsL l)))) ∧ Ext w w' := by
  obtain ⟨A, c, rfl, hlc, hA⟩ := hv.form
  generalize hL : l.length = L at hlc hv hm ⊢
  have H := Lib.hid (And.intro hv (And.intro trivial hL)); clear hv hL
  obtain ⟨R, hR⟩ : ∃ R, R = encS (stripL (charsL l)) := ⟨_, rfl⟩
  rw [← hR]
  have HR := Lib.hid hR; clear hR
  go_enter Tryd.func40, Tryd.ntmps40
  go_wp2
  go_loopg [3, 4] L (fun k u v wr => ∃ (i : Nat) (B : Option Addr) (d0 : Nat), v = .int .i64 i ∧ u = .slice B (charsL (l.take i)).length d0 ∧ Hid (i + k = L ∧ OwnR wr w.heap.size (.slice B (charsL (l.take i)).length d0) (charsL (l.take i)) ∧ Ext w wr))
  case atStart => exact ⟨0, _, _, rfl, rfl, Nat.zero_add _, OwnR.nil _ _, Ext.refl w⟩
  case round =>
    obtain ⟨i, B, d0, rfl, rfl, hin⟩ := hrel
    by_cases hi : i < L
    · obtain ⟨x, hx⟩ : ∃ x, l[i]? = some x := ⟨l[i]'(by rw [H.out.2.2]; exact hi), List.getElem?_eq_getElem _⟩
      obtain ⟨hxo, g', off', rfl, hcx⟩ := H.out.1.at hx
      have htk := charsL_take l i x hx
      have hln := charsL_len (l.take i)
      rw [List.length_take] at hln
      have hx3 := hcx.ext hin.out.2.2
      obtain ⟨r, f, b, a⟩ := x
      obtain ⟨k0, k1, k2, k3⟩ := hx3.four
      generalize hD : charsL (l.take i) = D at hin htk hln ⊢
      have HD := Lib.hid (And.intro hD (And.intro htk (And.intro hln (And.intro hxo (And.intro hx hx3))))); clear hD htk hln hxo hx hcx hx3
      generalize hN : D.length = N at hin ⊢
      have HN := Lib.hid hN; clear hN
      go_wp2_with fail
      refine (RefCheck_of ⟨r, f, b, a⟩ _ HD.out.2.2.2.1).mono ?_
      rintro e w3 ⟨rfl, hx3⟩
      obtain ⟨m0, m1, m2, m3⟩ := (HD.out.2.2.2.2.2.ext hx3).four
      have H3 := Lib.hid (And.intro (hin.out.2.1.ext hx3) (hin.out.2.2.trans hx3))
      have HX3 := Lib.hid hx3; clear hx3
      clear k0 k1 k2 k3
      generalize hC : Cel.check ⟨r, f, b, a⟩ = C
      have HC := Lib.hid hC; clear hC
      cases C with
      | false =>
        go_wp2_with (at_builtin; refine wpList_app_rune rfl _ _ rfl w.heap.size (.slice B N d0) D rfl (H3.out.1.ext ((Ext.refl w3).alloc _)) w3.heap.size 63 rfl (Lib.cell_of_heap (Go.heap_alloc_new w3 (.cells #[.int .i32 63] 21)) 0) (by have := HD.out.2.2.1; have := HN.out; omega) (H3.out.2.alloc _).size ?_)
        intro v' w5 hap
        obtain ⟨g2, cap2, rfl, _, _⟩ := World.ownsRow.form hap.own (by rw [List.length_append]; exact Nat.succ_pos _)
        have hx5 := ext_grown (H3.out.2.alloc _) (H3.out.1.ext ((Ext.refl w3).alloc (.cells #[.int .i32 63] 21))) hap.grown (Nat.le_refl _)
        have hdd : D ++ [63] = charsL (l.take (i + 1)) := by rw [HD.out.2.1, charsL_bad HC.out]
        have hown := hap.own
        rw [hdd] at hown ⊢
        have H5 := Lib.hid (And.intro hown hx5); clear hown hx5 hap hdd
        have hgk := hin.out.1
        go_wp2
        go_roundg (gk - 1)
        case measure => omega
        case rel => exact ⟨i + 1, _, cap2, by go_num, rfl, by show i + 1 + (gk - 1) = L; omega, H5.out.1, H5.out.2⟩
      | true =>
        go_wp2_with fail
        refine (RefTl_of ⟨r, f, b, a⟩ _ HD.out.2.2.2.1).mono ?_
        rintro e w4 ⟨rfl, hx⟩
        obtain ⟨q0, q1, q2, q3⟩ := ((HD.out.2.2.2.2.2.ext HX3.out).ext hx).four
        have h4 := And.intro (H3.out.1.ext hx) (H3.out.2.trans hx)
        clear hx m0 m1 m2 m3 H3
        have H3 := Lib.hid h4; clear h4
        generalize hT : Cel.tl ⟨r, f, b, a⟩ = T
        have HT := Lib.hid hT; clear hT
        cases T with
        | true =>
          have hdd : D = charsL (l.take (i + 1)) := by rw [HD.out.2.1, charsL_tail HC.out HT.out, List.append_nil]
          have hNN : N = (charsL (l.take (i + 1))).length := by rw [← hdd]; exact HN.out.symm
          have hown := H3.out.1
          rw [hNN, hdd] at hown
          have H5 := Lib.hid (And.intro hown (And.intro H3.out.2 hNN)); clear hown hdd hNN
          have hgk := hin.out.1
          go_wp2_with fail
          go_roundg (gk - 1)
          case measure => omega
          case rel => exact ⟨i + 1, B, d0, by go_num, by rw [← H5.out.2.2], by show i + 1 + (gk - 1) = L; omega, H5.out.1, H5.out.2.1⟩
        | false =>
          go_wp2_with (at_builtin; refine wpList_app_rune rfl _ _ rfl w.heap.size (.slice B N d0) D rfl (H3.out.1.ext ((Ext.refl w4).alloc _)) w4.heap.size r rfl (Lib.cell_of_heap (Go.heap_alloc_new w4 (.cells #[.int .i32 r] 21)) 0) (by have := HD.out.2.2.1; have := HN.out; omega) (H3.out.2.alloc _).size ?_)
          intro v' w5 hap
          obtain ⟨g2, cap2, rfl, _, _⟩ := World.ownsRow.form hap.own (by rw [List.length_append]; exact Nat.succ_pos _)
          have hx5 := ext_grown (H3.out.2.alloc _) (H3.out.1.ext ((Ext.refl w4).alloc (.cells #[.int .i32 r] 21))) hap.grown (Nat.le_refl _)
          have hdd : D ++ [r] = charsL (l.take (i + 1)) := by rw [HD.out.2.1, charsL_good HC.out HT.out]
          have hown := hap.own
          rw [hdd] at hown ⊢
          have H5 := Lib.hid (And.intro hown hx5); clear hown hx5 hap hdd
          have hgk := hin.out.1
          go_wp2
          go_roundg (gk - 1)
          case measure => omega
          case rel => exact ⟨i + 1, _, cap2, by go_num, rfl, by show i + 1 + (gk - 1) = L; omega, H5.out.1, H5.out.2⟩
    · have hil : l.take i = l := List.take_of_length_le (by rw [H.out.2.2]; omega)
      rw [hil] at hin ⊢
      have hall := charsL_i32 H.out.1.all
      have hir := hin.out.2.1.isRunes hall
      have hcl := charsL_len l
      rw [H.out.2.2] at hcl
      have HI := Lib.hid (And.intro hir (And.intro hin.out.2.2 hcl)); clear hir hall hcl hil
      go_wp2_with fail
      go_loopg [3] L (fun k u wq => ∃ (zs : List Int) (C : Option Addr) (d : Nat), u = .slice C zs.length d ∧ Hid (zs.length ≤ k ∧ zs.length ≤ L ∧ stripL zs = stripL (charsL l) ∧ IsRunes wq (.slice C zs.length d) zs ∧ Ext w wq))
      case atStart => exact ⟨charsL l, B, d0, rfl, HI.out.2.2, HI.out.2.2, rfl, HI.out.1, HI.out.2.1⟩
      case round =>
        obtain ⟨zs, C, d, rfl, hq⟩ := hrel
        rcases List.eq_nil_or_concat zs with rfl | ⟨ys, z, hzs⟩
        · have hs := hq.out.2.2.1
          have HS := Lib.hid hs; clear hs
          simp only [List.length_nil]
          go_wp2_with fail
          refine (RefEncode_runes [] _ _ hq.out.2.2.2.1 (by decide)).mono ?_
          rintro e w7 ⟨rfl, hx7⟩
          have HX7 := Lib.hid hx7; clear hx7
          go_wp2_with fail
          go_ret
          exact ⟨by rw [HR.out, ← HS.out]; rfl, hq.out.2.2.2.2.trans HX7.out⟩
        · rw [List.concat_eq_append] at hzs
          subst hzs
          have hir := hq.out.2.2.2.1
          have hls : (ys ++ [z]).length = ys.length + 1 := by simp
          obtain ⟨hz1, g3, off3, rfl, hz2⟩ := hir.at (i := ys.length) (m := z) (by simp)
          have hcut := hir.cut ys.length (by omega)
          rw [List.take_left] at hcut
          obtain ⟨hlen1, hlen2⟩ := And.intro hq.out.1 hq.out.2.1
          rw [hls] at hlen1 hlen2 hir ⊢
          have hst1 : z = 32 → stripL ys = stripL (charsL l) := fun e => by rw [← hq.out.2.2.1, e, stripL_last]
          have hst2 : z ≠ 32 → ys ++ [z] = stripL (charsL l) := fun e => by rw [← hq.out.2.2.1, stripL_stop _ _ e]
          have hex := hq.out.2.2.2.2
          have hyd : ys.length + 1 ≤ d := by
            obtain ⟨A5, c5, e5, h5, _⟩ := hir.form
            injection e5 with _ e6 e7
            rw [e7, ← hls]; exact h5
          clear hq
          generalize hY : ys.length = Y at *
          have HY := Lib.hid (And.intro hY (And.intro hir (And.intro hcut (And.intro hst1 (And.intro hst2 hex))))); clear hY hir hcut hls hst1 hst2 hex
          by_cases hz32 : z = 32
          · subst hz32
            go_wp2_with fail
            go_roundg (gk - 1)
            case measure => omega
            case rel => exact ⟨ys, _, d, by rw [HY.out.1], by have := HY.out.1; omega, by have := HY.out.1; omega, by simpa using HY.out.2.2.2.1, by rw [HY.out.1]; exact HY.out.2.2.1, HY.out.2.2.2.2.2⟩
          · have ez : (z == 32) = false := by simpa using hz32
            have hst := HY.out.2.2.2.2.1 hz32
            have HST := Lib.hid hst; clear hst hz32
            go_wp2_with fail
            refine (RefEncode_runes (ys ++ [z]) _ _ HY.out.2.1 (by rw [List.length_append, HY.out.1]; simp; omega)).mono ?_
            rintro e w7 ⟨rfl, hx7⟩
            have HX7 := Lib.hid hx7; clear hx7
            go_wp2_with fail
            go_ret
            exact ⟨by rw [HR.out, ← HST.out]; rfl, HY.out.2.2.2.2.2.trans HX7.out⟩
end Go.Proofs.YtckdchkegbdiaaaDoor
