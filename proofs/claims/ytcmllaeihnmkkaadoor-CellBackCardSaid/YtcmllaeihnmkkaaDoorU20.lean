/- Reading a row of cells: cell.Read. (Under way.) -/
import Derived.Test.YtcmllaeihnmkkaaDoorU11
import Derived.Test.YtcmllaeihnmkkaaDoorU12
import Derived.Test.YtcmllaeihnmkkaaDoorU13
import Derived.Test.YtcmllaeihnmkkaaDoorU17
import Derived.Test.YtcmllaeihnmkkaaDoorU18
import Derived.Test.YtcmllaeihnmkkaaDoorU19
import Derived.Deep.RegionWith
import Derived.Deep.RegionHeld3
namespace Go.Proofs.YtcmllaeihnmkkaaDoor
open Go Go.RowKit
attribute [local go_sem 10000] eq_cel

/-- A row of cells that was made since. -/
def NewC (w w' : World) (v : Value) (l : List Cel) : Prop := OwnC w' w.heap.size v l ∧ ∀ x, x ∈ l → x.ok
theorem NewC.nil (w w' : World) : NewC w w' (.slice none 0 0) [] := ⟨OwnC.nil _ _, fun x hx => by cases hx⟩
theorem NewC.isCells {w w' : World} {v : Value} {l : List Cel} (h : NewC w w' v l) : IsCells w' v l := h.1.isCells h.2
theorem NewC.ext {w w' w2 : World} {v : Value} {l : List Cel} (h : NewC w w' v l) (hx : Ext w' w2) : NewC w w2 v l := ⟨h.1.ext hx, h.2⟩
theorem NewC.only {w w' w2 : World} {d : Nat} {v : Value} {l : List Cel} (h : NewC w w' v l) (hx : Only d w' w2) (hd : d < w.heap.size) : NewC w w2 v l := ⟨h.1.only hx hd, h.2⟩
set_option maxHeartbeats 8000000 in
set_option maxRecDepth 100000 in
theorem Read_all (w0 W : World) (g : Nat) (s : ByteArray) (n : Int) (hs : s.size ≤ 1000000) (h : RowAt W g s 0 0) (hx0 : Ext w0 W) (hg0 : w0.heap.size ≤ g) (hS : Spans w0) :
    Calls Tryd.prog 16 #[.pointer (some ⟨g, 0, none⟩), .int .i64 n] W fun e w' => ∃ v', e = .returned v' ∧ NewC W w' v' (readC s n).1 ∧ RowAt w' g s (readC s n).2.1 (readC s n).2.2 ∧ Only g W w' := by
  have hgW := Blk.lt h
  obtain ⟨R, hR⟩ : ∃ R, readC s n = R := ⟨_, rfl⟩
  rw [hR]
  have H := Lib.hid (And.intro h (And.intro hs (And.intro hx0 (And.intro hg0 (And.intro hS (And.intro hR hgW)))))); clear h hs hx0 hg0 hS hR hgW
  go_enter Tryd.func16, Tryd.ntmps16
  by_cases hb : n < 0 ∨ 4096 < n
  · have hre : R = ([], 0, 1) := by rw [← H.out.2.2.2.2.2.1]; unfold readC; rw [if_pos hb]
    subst hre
    have hF := Fail_all W g s 0 0 1 H.out.1
    have HF := Lib.hid hF; clear hF
    have hs1 : ∀ P : Prop, (n < 0 → P) → (¬ n < 0 → 4096 < n → P) → P := fun P h1 h2 => by
      by_cases h3 : n < 0
      · exact h1 h3
      · exact h2 h3 (by omega)
    clear hb
    apply hs1
    all_goals
      intros
      go_wp2_with fail
      refine HF.out.mono ?_
      rintro e w1 ⟨rfl, h1, x1⟩
      have H1 := Lib.hid (And.intro h1 x1); clear h1 x1
      go_wp2_with fail
      go_ret
      exact ⟨_, rfl, NewC.nil _ _, H1.out.1, H1.out.2⟩
  · obtain ⟨N, rfl⟩ : ∃ N : Nat, n = (N : Int) := ⟨n.toNat, by omega⟩
    have hN : N ≤ 4096 := by omega
    have hre : readGo s N N [] Cel.zero 0 = R := by rw [← H.out.2.2.2.2.2.1]; unfold readC; rw [if_neg hb]; simp
    have HRE := Lib.hid hre; clear hre hb
    go_wp2_with fail
    have hq : Blk (W.alloc (.cells #[.int .i32 0, .int .u8 0, .int .u8 0, .int .u8 0] 57)) W.heap.size 57 #[.int .i32 Cel.zero.r, .int .u8 Cel.zero.f, .int .u8 Cel.zero.b, .int .u8 Cel.zero.a] := Go.heap_alloc_new W _
    have hr1 := Blk.ext H.out.1 ((Ext.refl W).alloc (.cells #[.int .i32 0, .int .u8 0, .int .u8 0, .int .u8 0] 57))
    have ho1 := (Only.refl g W).alloc (.cells #[.int .i32 0, .int .u8 0, .int .u8 0, .int .u8 0] 57)
    have hz1 : (W.alloc (.cells #[.int .i32 0, .int .u8 0, .int .u8 0, .int .u8 0] 57)).heap.size = W.heap.size + 1 := by simp
    generalize W.alloc (.cells #[.int .i32 0, .int .u8 0, .int .u8 0, .int .u8 0] 57) = w1 at hq hr1 ho1 hz1 ⊢
    have hgQ : W.heap.size ≠ g := by have := H.out.2.2.2.2.2.2; omega
    generalize hQ : W.heap.size = Q at hq hgQ hz1 ⊢
    have H1 := Lib.hid (And.intro hq (And.intro hr1 (And.intro ho1 (And.intro hz1 hQ)))); clear hq hr1 ho1 hz1 hQ
    go_loopg [5] N (fun k u wr => ∃ (out : List Cel) (B : Option Addr) (d : Nat) (ah : Cel) (p : Nat), u = .slice B out.length d ∧ Hid (out.length ≤ N ∧ N ≤ out.length + k ∧ (∃ fu, N ≤ out.length + fu ∧ readGo s N fu out ah p = R) ∧ p ≤ s.size ∧ RowAt wr g s p 0 ∧ Blk wr Q 57 #[.int .i32 ah.r, .int .u8 ah.f, .int .u8 ah.b, .int .u8 ah.a] ∧ OwnC wr (Q + 1) (.slice B out.length d) out ∧ (∀ x, x ∈ out → x.ok) ∧ Only g W wr ∧ Q + 1 ≤ wr.heap.size))
    case atStart => exact ⟨[], none, 0, Cel.zero, 0, rfl, Nat.zero_le _, by simp, ⟨N, by simp, HRE.out⟩, Nat.zero_le _, H1.out.2.1, H1.out.1, OwnC.nil _ _, (fun x hx => by cases hx), H1.out.2.2.1, by rw [H1.out.2.2.2.1]; exact Nat.le_refl _⟩
    case round =>
      obtain ⟨out, B, d, ah, p, rfl, hin⟩ := hrel
      generalize hO : out.length = O at hin ⊢
      have HO := Lib.hid hO; clear hO
      by_cases hlt : O < N
      · go_wp2_with fail
        refine (Err_ok wr g s p hin.out.2.2.2.2.1).mono ?_
        rintro e w2 ⟨rfl, x2⟩
        have HX2 := Lib.hid x2; clear x2
        go_wp2_with fail
        refine (readRun_at w2 g s p 0 H.out.2.1 hin.out.2.2.2.1 (by unfold okC; omega) (Blk.ext hin.out.2.2.2.2.1 HX2.out)).mono ?_
        rintro e w3 ⟨rfl, h3, x3⟩
        obtain ⟨fu, hfu, hRR⟩ := hin.out.2.2.1
        obtain ⟨RA, hRA⟩ : ∃ RA, runAt s p 0 = RA := ⟨_, rfl⟩
        have hok := runAt_ok s p 0 hin.out.2.2.2.1 (by unfold okC; omega)
        have hfail := readGo_fail s N fu out ah p (by rw [HO.out]; exact hlt) (by rw [HO.out]; exact hfu)
        have hbad := readGo_bad s N fu out ah p (by rw [HO.out]; exact hlt) (by rw [HO.out]; exact hfu)
        rw [hRA] at h3 hok hfail hbad ⊢
        rw [hRR] at hfail hbad
        obtain ⟨k, ⟨r, f, b, a⟩, p5, c5⟩ := RA
        dsimp only at h3 hok hfail hbad ⊢
        have hBR0 : badRun N out ah k ⟨r, f, b, a⟩ = true → R = ([], p5, failF c5 10) := fun hb => by
          unfold failF
          split
          · rename_i h0; exact hbad h0 hb
          · rename_i h0; exact hfail h0
        have hk0 := hok.2.2.1
        have hk1 := hok.2.2.2.1
        have hcok := hok.2.2.2.2
        have HW3 := Lib.hid (And.intro h3 (And.intro ((hin.out.2.2.2.2.2.2.2.2.1.ext HX2.out).trans x3) (And.intro (Blk.only (Blk.ext hin.out.2.2.2.2.2.1 HX2.out) x3 hgQ) (And.intro (OwnC.only (hin.out.2.2.2.2.2.2.1.ext HX2.out) x3 (by have := H.out.2.2.2.2.2.2; have := H1.out.2.2.2.2; omega)) (And.intro hok (And.intro hfail (And.intro hRR (And.intro hfu hRA))))))))
        clear h3 x3 hok hfail hbad hRR hfu hRA
        go_wp2_with fail
        refine (bothC_of ⟨r, f, b, a⟩ _ hcok).mono ?_
        rintro e w4 ⟨v9, rfl, ho9, x4⟩
        have hcb := (CelAt.new w3 ⟨r, f, b, a⟩).ext x4
        have HCB := Lib.hid hcb; clear hcb
        have HCC := Lib.hid (show Blk w4 w3.heap.size 57 #[.int .i32 r, .int .u8 f, .int .u8 b, .int .u8 a] from Blk.ext (Go.heap_alloc_new w3 _) x4)
        have hlt3 : ∀ k, (Value.slice B O d).ownBlock = some k → Q + 1 ≤ k ∧ k < w3.heap.size := fun k hk => World.ownsRow.lt HW3.out.2.2.2.1 k hk
        have hlt9 : ∀ k, v9.ownBlock = some k → w3.heap.size < k ∧ k < w4.heap.size := fun k hk => by have := World.ownsRow.lt ho9 k hk; simp at this; omega
        have HLT := Lib.hid (And.intro hlt3 hlt9); clear hlt3 hlt9
        have hx34 := (((Ext.refl w3).alloc (.cells #[.int .i32 r, .int .u8 f, .int .u8 b, .int .u8 a] 57)).trans x4)
        have hi9 := ho9.isCells (bothL_ok hcok)
        have hsp : ∀ w', Only g W w' → Spans w' := fun w' ho => H.out.2.2.2.2.1.ext (Below.trans H.out.2.2.1 (ho.below H.out.2.2.2.1 H.out.2.2.1.size))
        have HS := Lib.hid (And.intro (Blk.ext HW3.out.1 hx34) (And.intro (HW3.out.2.1.ext hx34) (And.intro (Blk.ext HW3.out.2.2.1 hx34) (And.intro (HW3.out.2.2.2.1.ext hx34) (And.intro hi9 hsp)))))
        have h9l : (bothL ⟨r, f, b, a⟩).length = Cel.step ⟨r, f, b, a⟩ := bothL_len _
        have hst : Cel.step ⟨r, f, b, a⟩ = 1 ∨ Cel.step ⟨r, f, b, a⟩ = 2 := by have := Cel.step_pos ⟨r, f, b, a⟩; have := Cel.step_le ⟨r, f, b, a⟩; omega
        have H9 := Lib.hid (And.intro ho9 (And.intro h9l hst)); clear ho9 hi9 hsp hx34 x4 h9l hst
        have hx0 : Ext w4 w4 := Ext.refl w4
        have HX := Lib.hid hx0; clear hx0
        obtain ⟨k0, k1, k2, k3⟩ := (HCB.out.ext HX.out).four0
        generalize w3.heap.size = Cb at HCB H9 HCC HLT k0 k1 k2 k3 ⊢
        go_wp2_with fail
        refine (Check_of ⟨r, f, b, a⟩ _ hcok (HS.out.2.2.2.2.2 _ (HS.out.2.1.ext HX.out))).mono ?_
        rintro e w9 ⟨rfl, x9⟩
        have h9 := HX.out.trans x9
        clear HX x9 k0 k1 k2 k3
        have HX := Lib.hid h9; clear h9
        obtain ⟨k0, k1, k2, k3⟩ := (HCB.out.ext HX.out).four0
        cases hC : Cel.check ⟨r, f, b, a⟩ with
        | false =>
          have hBR := hBR0 (by unfold badRun; rw [hC]; rfl)
          clear hC
          go_wp2_with fail
          refine (Fail_all _ g s p5 c5 10 (Blk.ext HS.out.1 HX.out)).mono ?_
          rintro e w10 ⟨rfl, h10, x10⟩
          have hne : failF c5 10 ≠ 0 := by unfold failF; split <;> omega
          have H10 := Lib.hid (And.intro h10 ((HS.out.2.1.ext HX.out).trans x10)); clear h10 x10 k0 k1 k2 k3
          go_wp2_with fail
          refine (Err_bad _ g s p5 _ hne H10.out.1).mono ?_
          rintro e w11 ⟨rfl, x11⟩
          have H11 := Lib.hid x11; clear x11
          go_wp2_with fail
          go_ret
          refine ⟨_, rfl, ?_, ?_, H10.out.2.ext H11.out⟩
          · rw [hBR]; exact NewC.nil _ _
          · rw [hBR]; exact Blk.ext H10.out.1 H11.out
        | true =>
          go_wp2_with fail
          refine (isTail_of ⟨r, f, b, a⟩ _ hcok).mono ?_
          rintro e w9 ⟨rfl, x9⟩
          have h9 := HX.out.trans x9
          clear HX x9 k0 k1 k2 k3
          have HX := Lib.hid h9; clear h9
          obtain ⟨k0, k1, k2, k3⟩ := (HCB.out.ext HX.out).four0
          cases hT : Cel.tl ⟨r, f, b, a⟩ with
          | true =>
            have hBR := hBR0 (by unfold badRun; rw [hC, hT]; rfl)
            clear hC hT
            go_wp2_with fail
            refine (Fail_all _ g s p5 c5 10 (Blk.ext HS.out.1 HX.out)).mono ?_
            rintro e w10 ⟨rfl, h10, x10⟩
            have hne : failF c5 10 ≠ 0 := by unfold failF; split <;> omega
            have H10 := Lib.hid (And.intro h10 ((HS.out.2.1.ext HX.out).trans x10)); clear h10 x10 k0 k1 k2 k3
            go_wp2_with fail
            refine (Err_bad _ g s p5 _ hne H10.out.1).mono ?_
            rintro e w11 ⟨rfl, x11⟩
            have H11 := Lib.hid x11; clear x11
            go_wp2_with fail
            go_ret
            refine ⟨_, rfl, ?_, ?_, H10.out.2.ext H11.out⟩
            · rw [hBR]; exact NewC.nil _ _
            · rw [hBR]; exact Blk.ext H10.out.1 H11.out
          | false =>
            have q0 := fun wx (hx : Ext w4 wx) => Blk.cell (Blk.ext HS.out.2.2.1 hx) 0
            have e0 : ∀ wx, Ext w4 wx → wx.cell? ⟨Q, 0, none⟩ = some (.int .i32 ah.r) := fun wx hx => Blk.cell (Blk.ext HS.out.2.2.1 hx) 0
            have e1 : ∀ wx, Ext w4 wx → wx.cell? ⟨Q, 1, none⟩ = some (.int .u8 ah.f) := fun wx hx => Blk.cell (Blk.ext HS.out.2.2.1 hx) 1
            have e2 : ∀ wx, Ext w4 wx → wx.cell? ⟨Q, 2, none⟩ = some (.int .u8 ah.b) := fun wx hx => Blk.cell (Blk.ext HS.out.2.2.1 hx) 2
            have e3 : ∀ wx, Ext w4 wx → wx.cell? ⟨Q, 3, none⟩ = some (.int .u8 ah.a) := fun wx hx => Blk.cell (Blk.ext HS.out.2.2.1 hx) 3
            have u0 := e0 _ HX.out
            have u1 := e1 _ HX.out
            have u2 := e2 _ HX.out
            have u3 := e3 _ HX.out
            clear q0 e0 e1 e2 e3
            generalize hE : celEq ⟨r, f, b, a⟩ ⟨ah.r, ah.f, ah.b, ah.a⟩ = E
            cases E with
            | true =>
              have hBR := hBR0 (by unfold badRun; rw [decide_eq_true (celEq_true.1 hE)]; simp)
              clear hC hT
              go_wp2_with fail
              refine (Fail_all _ g s p5 c5 10 (Blk.ext HS.out.1 HX.out)).mono ?_
              rintro e w10 ⟨rfl, h10, x10⟩
              have hne : failF c5 10 ≠ 0 := by unfold failF; split <;> omega
              have H10 := Lib.hid (And.intro h10 ((HS.out.2.1.ext HX.out).trans x10)); clear h10 x10 k0 k1 k2 k3 u0 u1 u2 u3 hE
              go_wp2_with fail
              refine (Err_bad _ g s p5 _ hne H10.out.1).mono ?_
              rintro e w11 ⟨rfl, x11⟩
              have H11 := Lib.hid x11; clear x11
              go_wp2_with fail
              go_ret
              refine ⟨_, rfl, ?_, ?_, H10.out.2.ext H11.out⟩
              · rw [hBR]; exact NewC.nil _ _
              · rw [hBR]; exact Blk.ext H10.out.1 H11.out
            | false =>
              obtain ⟨A9, c9, rfl, _, _⟩ := HS.out.2.2.2.2.1.form
              have h9l := H9.out.2.1
              have hst := H9.out.2.2
              rw [h9l]
              generalize hKK : Cel.step ⟨r, f, b, a⟩ = K at hst h9l
              rcases hst with rfl | rfl
              · by_cases hG : (N : Int) - (O : Int) < (1 + k) * 1
                · have hBR := hBR0 (by unfold badRun; rw [hKK, HO.out, decide_eq_true (show (N : Int) < (O : Int) + (k + 1) * ((1 : Nat) : Int) by omega)]; simp)
                  have hG2 : (N : Int) - (O : Int) < 1 + k := by omega
                  clear hC hT
                  go_wp2_with fail
                  refine (Fail_all _ g s p5 c5 10 (Blk.ext HS.out.1 HX.out)).mono ?_
                  rintro e w10 ⟨rfl, h10, x10⟩
                  have hne : failF c5 10 ≠ 0 := by unfold failF; split <;> omega
                  have H10 := Lib.hid (And.intro h10 ((HS.out.2.1.ext HX.out).trans x10)); clear h10 x10 k0 k1 k2 k3 u0 u1 u2 u3 hE
                  go_wp2_with fail
                  refine (Err_bad _ g s p5 _ hne H10.out.1).mono ?_
                  rintro e w11 ⟨rfl, x11⟩
                  have H11 := Lib.hid x11; clear x11
                  go_wp2_with fail
                  go_ret
                  refine ⟨_, rfl, ?_, ?_, H10.out.2.ext H11.out⟩
                  · rw [hBR]; exact NewC.nil _ _
                  · rw [hBR]; exact Blk.ext H10.out.1 H11.out
                · have hG3 : ¬ (N : Int) - (O : Int) < 1 + k := by omega
                  go_wp2_with fail
                  by_cases hc5 : c5 = 0
                  · subst hc5
                    refine (Err_ok _ g s p5 (Blk.ext HS.out.1 HX.out)).mono ?_
                    rintro e w10 ⟨rfl, x10⟩
                    have h10 := HX.out.trans x10
                    have HEE := Lib.hid hE
                    clear HX x10 k0 k1 k2 k3 u0 u1 u2 u3 hE
                    have HX := Lib.hid h10; clear h10
                    obtain ⟨kn, hkn⟩ : ∃ kn : Nat, 1 + k = (kn : Int) := ⟨(1 + k).toNat, by omega⟩
                    have hkb : 1 ≤ kn ∧ kn ≤ 4096 := by omega
                    rw [hkn]
                    have hON : O + kn * 1 ≤ N := by omega
                    have HKN := Lib.hid hkn; clear hkn hG
                    go_wp2_with fail
                    have hnb : badRun N out ah k ⟨r, f, b, a⟩ = false := by
                      unfold badRun
                      rw [hC, hT, decide_eq_false (celEq_false.1 HEE.out), hKK, HO.out, decide_eq_false (show ¬ (N : Int) < (O : Int) + (k + 1) * ((1 : Nat) : Int) by have := HKN.out; omega)]; rfl
                    have hnx : ∃ f1, N ≤ O + (f1 + 1) ∧ readGo s N f1 (out ++ timesL kn (bothL ⟨r, f, b, a⟩)) ⟨r, f, b, a⟩ p5 = R := by
                      have hfu := HW3.out.2.2.2.2.2.2.2.1
                      have hRR := HW3.out.2.2.2.2.2.2.1
                      have hRA := HW3.out.2.2.2.2.2.2.2.2
                      cases fu with
                      | zero => omega
                      | succ f1 =>
                        refine ⟨f1, hfu, ?_⟩
                        have h1 := readGo_step s N f1 out ah p (by rw [HO.out]; exact hlt) (by rw [hRA]) (by rw [hRA]; exact hnb)
                        rw [hRA] at h1
                        simp only at h1
                        rw [show (k + 1).toNat = kn by have := HKN.out; omega] at h1
                        rw [← h1]; exact hRR
                    have HNX := Lib.hid hnx; clear hnb hnx hC hT
                    have hown9 := HS.out.2.2.2.2.1
                    obtain ⟨g9, o9, rfl⟩ := hown9.addr (by rw [H9.out.2.1, hKK]; decide)
                    have hh9 := H9.out.1
                    rw [H9.out.2.1, hKK] at hh9
                    obtain ⟨B9, hB9⟩ : ∃ B9, OwnC w4 B9 (.slice (some ⟨g9, o9, none⟩) 1 c9) (bothL ⟨r, f, b, a⟩) := ⟨_, hh9⟩
                    clear hh9
                    have ho9 : o9 = 0 := by
                      rcases hB9.2 with ⟨e, _⟩ | ⟨gg, cap, cur, e, _⟩
                      · cases e
                      · injection e with e _ _; injection e with e; injection e
                    subst ho9
                    have hg9 := HLT.out.2 g9 rfl
                    have hone := hB9.ext HX.out
                    have hbl : (bothL ⟨r, f, b, a⟩).length = 1 := by rw [H9.out.2.1, hKK]
                    generalize hON1 : bothL ⟨r, f, b, a⟩ = one at hone hbl HNX
                    have hoo : ∀ x, x ∈ one → x.ok := by rw [← hON1]; exact bothL_ok hcok
                    have HONE := Lib.hid (And.intro hbl (And.intro hoo hg9)); clear hON1 hbl hoo hB9 hg9 hown9
                    obtain ⟨go, hgo⟩ : ∃ go, go = gk := ⟨_, rfl⟩
                    have HGO := Lib.hid hgo; clear hgo
                    have hst0 : OwnC w10 (Q + 1) (.slice B O d) out := HS.out.2.2.2.1.ext HX.out
                    rw [show (Value.slice B O d) = .slice B (out ++ timesL 0 one).length d by rw [timesL_zero, List.append_nil, HO.out]] at hst0
                    go_loopg [5, 63] kn (fun t u z wq => ∃ (j : Nat) (B2 : Option Addr) (d2 : Nat), z = .int .i64 j ∧ u = .slice B2 (out ++ timesL j one).length d2 ∧ Hid (j + t = kn ∧ OwnC wq (Q + 1) (.slice B2 (out ++ timesL j one).length d2) (out ++ timesL j one) ∧ RowAt wq g s p5 0 ∧ Only g W wq ∧ Blk wq Cb 57 #[.int .i32 r, .int .u8 f, .int .u8 b, .int .u8 a] ∧ Blk wq Q 57 #[.int .i32 ah.r, .int .u8 ah.f, .int .u8 ah.b, .int .u8 ah.a] ∧ OwnC wq B9 (.slice (some ⟨g9, 0, none⟩) 1 c9) one ∧ (∀ k, (Value.slice B2 (out ++ timesL j one).length d2).ownBlock = some k → k ≠ Cb ∧ k ≠ g9) ∧ Q + 1 ≤ wq.heap.size))
                    case atStart =>
                      refine ⟨0, B, d, rfl, by rw [timesL_zero, List.append_nil, HO.out], Nat.zero_add _, by rw [timesL_zero, List.append_nil] at hst0 ⊢; exact hst0, Blk.ext HS.out.1 HX.out, HS.out.2.1.ext HX.out, HCC.out.ext HX.out, Blk.ext HS.out.2.2.1 HX.out, hone, fun k hk => ?_, ?_⟩
                      · have h1 := HLT.out.1 k (by cases B <;> exact hk)
                        have h2 := HONE.out.2.2
                        omega
                      · have := HX.out.size; have := HONE.out.2.2; have := (HS.out.2.1.size); have := H1.out.2.2.2.2; have := H.out.2.2.2.2.2.2; have := Blk.lt HCC.out; have := Blk.lt HS.out.2.2.1; omega
                    case round =>
                      obtain ⟨j, B2, d2, rfl, rfl, hq⟩ := hrel
                      have hlen : (out ++ timesL j one).length ≤ 2000000 := by rw [List.length_append, timesL_len, HONE.out.1, HO.out]; have := hq.out.1; omega
                      by_cases hj : j < kn
                      · generalize hDD : out ++ timesL j one = D at hq hlen ⊢
                        have HDD := Lib.hid hDD; clear hDD
                        generalize hDN : D.length = DN at hq hlen ⊢
                        have HDN := Lib.hid hDN; clear hDN
                        go_wp2_with (at_builtin; refine wpList_app_cells_at rfl _ _ rfl (Q + 1) (.slice B2 DN d2) D rfl hq.out.2.1 g9 0 1 c9 one rfl (hq.out.2.2.2.2.2.2.1.isCells HONE.out.2.1) (by rw [HDN.out]; exact hlen) (by rw [HONE.out.1]; decide) hq.out.2.2.2.2.2.2.2.2 ?_)
                        intro v' w12 hown12 hgr hnew
                        have hlt2 := fun k hk => World.ownsRow.lt hq.out.2.1 k hk
                        obtain ⟨A3, c3, rfl, _⟩ := hown12.form
                        have e12 : D ++ one = out ++ timesL (j + 1) one := by rw [timesL_succ, ← List.append_assoc, HDD.out]
                        rw [e12] at hown12 hnew ⊢
                        have hWQ := H1.out.2.2.2.2
                        have hgW := H.out.2.2.2.2.2.2
                        have hne2 := hq.out.2.2.2.2.2.2.2.1
                        have hcl := Blk.lt hq.out.2.2.2.2.1
                        have hgl := World.ownsRow.lt hq.out.2.2.2.2.2.2.1 g9 rfl
                        have hsz := hgr.size
                        have H12 : Hid (OwnC w12 (Q + 1) (.slice A3 (out ++ timesL (j + 1) one).length c3) (out ++ timesL (j + 1) one) ∧ RowAt w12 g s p5 0 ∧ Only g W w12 ∧ Blk w12 Cb 57 #[.int .i32 r, .int .u8 f, .int .u8 b, .int .u8 a] ∧ Blk w12 Q 57 #[.int .i32 ah.r, .int .u8 ah.f, .int .u8 ah.b, .int .u8 ah.a] ∧ OwnC w12 B9 (.slice (some ⟨g9, 0, none⟩) 1 c9) one ∧ (∀ k, (Value.slice A3 (out ++ timesL (j + 1) one).length c3).ownBlock = some k → k ≠ Cb ∧ k ≠ g9) ∧ Q + 1 ≤ w12.heap.size) := by
                          refine Lib.hid ⟨hown12, Blk.grown hq.out.2.2.1 hgr (fun e => ?_), Only.grown hq.out.2.2.2.1 hgr (fun k hk => ?_), Blk.grown hq.out.2.2.2.2.1 hgr (fun e => (hne2 _ e).1 rfl), Blk.grown hq.out.2.2.2.2.2.1 hgr (fun e => ?_), World.ownsRow.kept hq.out.2.2.2.2.2.2.1 hgr (.inr (fun e => (hne2 g9 e.symm).2 rfl)), fun k hk => ?_, Nat.le_trans hq.out.2.2.2.2.2.2.2.2 hsz⟩
                          · have := (hlt2 _ e).1; omega
                          · have := (hlt2 _ hk).1; omega
                          · have := (hlt2 _ e).1; omega
                          · rcases hnew with h | h
                            · rw [h] at hk; exact hne2 k hk
                            · rw [h] at hk
                              have : wr.heap.size = k := by injection hk
                              omega
                        clear hown12 hgr hnew hlt2 hne2 hsz e12
                        have hgk := hq.out.1
                        go_wp2
                        go_roundg (gk - 1)
                        case measure => omega
                        case rel => exact ⟨j + 1, A3, c3, by go_num, rfl, by show j + 1 + (gk - 1) = kn; omega, H12.out⟩
                      · have hjk : j = kn := by have := hq.out.1; omega
                        subst hjk
                        have k0 : wr.cell? ⟨Cb, 0, none⟩ = some (.int .i32 r) := Blk.cell hq.out.2.2.2.2.1 0
                        have k1 : wr.cell? ⟨Cb, 1, none⟩ = some (.int .u8 f) := Blk.cell hq.out.2.2.2.2.1 1
                        have k2 : wr.cell? ⟨Cb, 2, none⟩ = some (.int .u8 b) := Blk.cell hq.out.2.2.2.2.1 2
                        have k3 : wr.cell? ⟨Cb, 3, none⟩ = some (.int .u8 a) := Blk.cell hq.out.2.2.2.2.1 3
                        have u0 : wr.cell? ⟨Q, 0, none⟩ = some (.int .i32 ah.r) := Blk.cell hq.out.2.2.2.2.2.1 0
                        have u1 : wr.cell? ⟨Q, 1, none⟩ = some (.int .u8 ah.f) := Blk.cell hq.out.2.2.2.2.2.1 1
                        have u2 : wr.cell? ⟨Q, 2, none⟩ = some (.int .u8 ah.b) := Blk.cell hq.out.2.2.2.2.2.1 2
                        have u3 : wr.cell? ⟨Q, 3, none⟩ = some (.int .u8 ah.a) := Blk.cell hq.out.2.2.2.2.2.1 3
                        have f0 := Blk.frozen hq.out.2.2.2.2.2.1 0
                        have f1 := Blk.frozen hq.out.2.2.2.2.2.1 1
                        have f2 := Blk.frozen hq.out.2.2.2.2.2.1 2
                        have f3 := Blk.frozen hq.out.2.2.2.2.2.1 3
                        have hbs := (((Blk.set_ hq.out.2.2.2.2.2.1 0 (.int .i32 r)).set_ 1 (.int .u8 f)).set_ 2 (.int .u8 b)).set_ 3 (.int .u8 a)
                        have hrs := Blk.apart (i := 3) (v := .int .u8 a) (Blk.apart (i := 2) (v := .int .u8 b) (Blk.apart (i := 1) (v := .int .u8 f) (Blk.apart (i := 0) (v := .int .i32 r) hq.out.2.2.1 hgQ.symm) hgQ.symm) hgQ.symm) hgQ.symm
                        have hWQ : W.heap.size ≤ Q := by rw [H1.out.2.2.2.2]; exact Nat.le_refl _
                        have hos := (((hq.out.2.2.2.1.fresh (i := 0) hWQ (.int .i32 r)).fresh (i := 1) hWQ (.int .u8 f)).fresh (i := 2) hWQ (.int .u8 b)).fresh (i := 3) hWQ (.int .u8 a)
                        have how := own_kept4 hq.out.2.1 (w' := (((wr.setCell ⟨Q, 0, none⟩ (.int .i32 r)).setCell ⟨Q, 1, none⟩ (.int .u8 f)).setCell ⟨Q, 2, none⟩ (.int .u8 b)).setCell ⟨Q, 3, none⟩ (.int .u8 a)) (fun g' hg' _ => by
                          rw [Below.heap_setCell _ _ _ _ (show g' ≠ Q by omega), Below.heap_setCell _ _ _ _ (show g' ≠ Q by omega), Below.heap_setCell _ _ _ _ (show g' ≠ Q by omega), Below.heap_setCell _ _ _ _ (show g' ≠ Q by omega)])
                        have HE := Lib.hid (And.intro hbs (And.intro hrs (And.intro hos how))); clear hbs hrs hos how hWQ
                        obtain ⟨f9, hf9, hR9⟩ := HNX.out
                        have HR9 := Lib.hid hR9; clear hR9
                        have hlen2 : (out ++ timesL j one).length = O + j * 1 := by rw [List.length_append, timesL_len, HONE.out.1, HO.out]
                        have HL2 := Lib.hid hlen2; clear hlen2
                        go_wp2_with fail
                        go_roundg (go - 1)
                        case measure => have := HGO.out; have := hin.out.2.1; omega
                        case rel =>
                          refine ⟨out ++ timesL j one, B2, d2, ⟨r, f, b, a⟩, p5, rfl, by rw [HL2.out]; exact hON, by rw [HL2.out]; have := HGO.out; have := hin.out.2.1; omega, ⟨f9, by rw [HL2.out]; omega, HR9.out⟩, HW3.out.2.2.2.2.1.1, HE.out.2.1, HE.out.1, HE.out.2.2.2, fun x hx => ?_, HE.out.2.2.1, ?_⟩
                          · rcases List.mem_append.1 hx with hx | hx
                            · exact hin.out.2.2.2.2.2.2.2.1 x hx
                            · exact HONE.out.2.1 x (timesL_mem hx)
                          · simpa [World.setCell] using hq.out.2.2.2.2.2.2.2.2
                  · refine (Err_bad _ g s p5 c5 hc5 (Blk.ext HS.out.1 HX.out)).mono ?_
                    rintro e w10 ⟨rfl, x10⟩
                    have h10 := HX.out.trans x10
                    clear HX x10 k0 k1 k2 k3 u0 u1 u2 u3 hE
                    have HX := Lib.hid h10; clear h10
                    have hR5 := HW3.out.2.2.2.2.2.1 hc5
                    go_wp2_with fail
                    go_ret
                    refine ⟨_, rfl, ?_, ?_, HS.out.2.1.ext HX.out⟩
                    · rw [hR5]; exact NewC.nil _ _
                    · rw [hR5]; exact Blk.ext HS.out.1 HX.out
              · by_cases hG : (N : Int) - (O : Int) < (1 + k) * 2
                · have hBR := hBR0 (by unfold badRun; rw [hKK, HO.out, decide_eq_true (show (N : Int) < (O : Int) + (k + 1) * ((2 : Nat) : Int) by omega)]; simp)
                  clear hC hT
                  go_wp2_with fail
                  refine (Fail_all _ g s p5 c5 10 (Blk.ext HS.out.1 HX.out)).mono ?_
                  rintro e w10 ⟨rfl, h10, x10⟩
                  have hne : failF c5 10 ≠ 0 := by unfold failF; split <;> omega
                  have H10 := Lib.hid (And.intro h10 ((HS.out.2.1.ext HX.out).trans x10)); clear h10 x10 k0 k1 k2 k3 u0 u1 u2 u3 hE
                  go_wp2_with fail
                  refine (Err_bad _ g s p5 _ hne H10.out.1).mono ?_
                  rintro e w11 ⟨rfl, x11⟩
                  have H11 := Lib.hid x11; clear x11
                  go_wp2_with fail
                  go_ret
                  refine ⟨_, rfl, ?_, ?_, H10.out.2.ext H11.out⟩
                  · rw [hBR]; exact NewC.nil _ _
                  · rw [hBR]; exact Blk.ext H10.out.1 H11.out
                · have hG3 : ¬ (N : Int) - (O : Int) < (1 + k) * 2 := hG
                  go_wp2_with fail
                  by_cases hc5 : c5 = 0
                  · subst hc5
                    refine (Err_ok _ g s p5 (Blk.ext HS.out.1 HX.out)).mono ?_
                    rintro e w10 ⟨rfl, x10⟩
                    have h10 := HX.out.trans x10
                    have HEE := Lib.hid hE
                    clear HX x10 k0 k1 k2 k3 u0 u1 u2 u3 hE
                    have HX := Lib.hid h10; clear h10
                    obtain ⟨kn, hkn⟩ : ∃ kn : Nat, 1 + k = (kn : Int) := ⟨(1 + k).toNat, by omega⟩
                    have hkb : 1 ≤ kn ∧ kn ≤ 4096 := by omega
                    rw [hkn]
                    have hON : O + kn * 2 ≤ N := by omega
                    have HKN := Lib.hid hkn; clear hkn hG
                    go_wp2_with fail
                    have hnb : badRun N out ah k ⟨r, f, b, a⟩ = false := by
                      unfold badRun
                      rw [hC, hT, decide_eq_false (celEq_false.1 HEE.out), hKK, HO.out, decide_eq_false (show ¬ (N : Int) < (O : Int) + (k + 1) * ((2 : Nat) : Int) by have := HKN.out; omega)]; rfl
                    have hnx : ∃ f1, N ≤ O + (f1 + 1) ∧ readGo s N f1 (out ++ timesL kn (bothL ⟨r, f, b, a⟩)) ⟨r, f, b, a⟩ p5 = R := by
                      have hfu := HW3.out.2.2.2.2.2.2.2.1
                      have hRR := HW3.out.2.2.2.2.2.2.1
                      have hRA := HW3.out.2.2.2.2.2.2.2.2
                      cases fu with
                      | zero => omega
                      | succ f1 =>
                        refine ⟨f1, hfu, ?_⟩
                        have h1 := readGo_step s N f1 out ah p (by rw [HO.out]; exact hlt) (by rw [hRA]) (by rw [hRA]; exact hnb)
                        rw [hRA] at h1
                        simp only at h1
                        rw [show (k + 1).toNat = kn by have := HKN.out; omega] at h1
                        rw [← h1]; exact hRR
                    have HNX := Lib.hid hnx; clear hnb hnx hC hT
                    have hown9 := HS.out.2.2.2.2.1
                    obtain ⟨g9, o9, rfl⟩ := hown9.addr (by rw [H9.out.2.1, hKK]; decide)
                    have hh9 := H9.out.1
                    rw [H9.out.2.1, hKK] at hh9
                    obtain ⟨B9, hB9⟩ : ∃ B9, OwnC w4 B9 (.slice (some ⟨g9, o9, none⟩) 2 c9) (bothL ⟨r, f, b, a⟩) := ⟨_, hh9⟩
                    clear hh9
                    have ho9 : o9 = 0 := by
                      rcases hB9.2 with ⟨e, _⟩ | ⟨gg, cap, cur, e, _⟩
                      · cases e
                      · injection e with e _ _; injection e with e; injection e
                    subst ho9
                    have hg9 := HLT.out.2 g9 rfl
                    have hone := hB9.ext HX.out
                    have hbl : (bothL ⟨r, f, b, a⟩).length = 2 := by rw [H9.out.2.1, hKK]
                    generalize hON1 : bothL ⟨r, f, b, a⟩ = one at hone hbl HNX
                    have hoo : ∀ x, x ∈ one → x.ok := by rw [← hON1]; exact bothL_ok hcok
                    have HONE := Lib.hid (And.intro hbl (And.intro hoo hg9)); clear hON1 hbl hoo hB9 hg9 hown9
                    obtain ⟨go, hgo⟩ : ∃ go, go = gk := ⟨_, rfl⟩
                    have HGO := Lib.hid hgo; clear hgo
                    have hst0 : OwnC w10 (Q + 1) (.slice B O d) out := HS.out.2.2.2.1.ext HX.out
                    rw [show (Value.slice B O d) = .slice B (out ++ timesL 0 one).length d by rw [timesL_zero, List.append_nil, HO.out]] at hst0
                    go_loopg [5, 63] kn (fun t u z wq => ∃ (j : Nat) (B2 : Option Addr) (d2 : Nat), z = .int .i64 j ∧ u = .slice B2 (out ++ timesL j one).length d2 ∧ Hid (j + t = kn ∧ OwnC wq (Q + 1) (.slice B2 (out ++ timesL j one).length d2) (out ++ timesL j one) ∧ RowAt wq g s p5 0 ∧ Only g W wq ∧ Blk wq Cb 57 #[.int .i32 r, .int .u8 f, .int .u8 b, .int .u8 a] ∧ Blk wq Q 57 #[.int .i32 ah.r, .int .u8 ah.f, .int .u8 ah.b, .int .u8 ah.a] ∧ OwnC wq B9 (.slice (some ⟨g9, 0, none⟩) 2 c9) one ∧ (∀ k, (Value.slice B2 (out ++ timesL j one).length d2).ownBlock = some k → k ≠ Cb ∧ k ≠ g9) ∧ Q + 1 ≤ wq.heap.size))
                    case atStart =>
                      refine ⟨0, B, d, rfl, by rw [timesL_zero, List.append_nil, HO.out], Nat.zero_add _, by rw [timesL_zero, List.append_nil] at hst0 ⊢; exact hst0, Blk.ext HS.out.1 HX.out, HS.out.2.1.ext HX.out, HCC.out.ext HX.out, Blk.ext HS.out.2.2.1 HX.out, hone, fun k hk => ?_, ?_⟩
                      · have h1 := HLT.out.1 k (by cases B <;> exact hk)
                        have h2 := HONE.out.2.2
                        omega
                      · have := HX.out.size; have := HONE.out.2.2; have := (HS.out.2.1.size); have := H1.out.2.2.2.2; have := H.out.2.2.2.2.2.2; have := Blk.lt HCC.out; have := Blk.lt HS.out.2.2.1; omega
                    case round =>
                      obtain ⟨j, B2, d2, rfl, rfl, hq⟩ := hrel
                      have hlen : (out ++ timesL j one).length ≤ 2000000 := by rw [List.length_append, timesL_len, HONE.out.1, HO.out]; have := hq.out.1; omega
                      by_cases hj : j < kn
                      · generalize hDD : out ++ timesL j one = D at hq hlen ⊢
                        have HDD := Lib.hid hDD; clear hDD
                        generalize hDN : D.length = DN at hq hlen ⊢
                        have HDN := Lib.hid hDN; clear hDN
                        go_wp2_with (at_builtin; refine wpList_app_cells_at rfl _ _ rfl (Q + 1) (.slice B2 DN d2) D rfl hq.out.2.1 g9 0 2 c9 one rfl (hq.out.2.2.2.2.2.2.1.isCells HONE.out.2.1) (by rw [HDN.out]; exact hlen) (by rw [HONE.out.1]; decide) hq.out.2.2.2.2.2.2.2.2 ?_)
                        intro v' w12 hown12 hgr hnew
                        have hlt2 := fun k hk => World.ownsRow.lt hq.out.2.1 k hk
                        obtain ⟨A3, c3, rfl, _⟩ := hown12.form
                        have e12 : D ++ one = out ++ timesL (j + 1) one := by rw [timesL_succ, ← List.append_assoc, HDD.out]
                        rw [e12] at hown12 hnew ⊢
                        have hWQ := H1.out.2.2.2.2
                        have hgW := H.out.2.2.2.2.2.2
                        have hne2 := hq.out.2.2.2.2.2.2.2.1
                        have hcl := Blk.lt hq.out.2.2.2.2.1
                        have hgl := World.ownsRow.lt hq.out.2.2.2.2.2.2.1 g9 rfl
                        have hsz := hgr.size
                        have H12 : Hid (OwnC w12 (Q + 1) (.slice A3 (out ++ timesL (j + 1) one).length c3) (out ++ timesL (j + 1) one) ∧ RowAt w12 g s p5 0 ∧ Only g W w12 ∧ Blk w12 Cb 57 #[.int .i32 r, .int .u8 f, .int .u8 b, .int .u8 a] ∧ Blk w12 Q 57 #[.int .i32 ah.r, .int .u8 ah.f, .int .u8 ah.b, .int .u8 ah.a] ∧ OwnC w12 B9 (.slice (some ⟨g9, 0, none⟩) 2 c9) one ∧ (∀ k, (Value.slice A3 (out ++ timesL (j + 1) one).length c3).ownBlock = some k → k ≠ Cb ∧ k ≠ g9) ∧ Q + 1 ≤ w12.heap.size) := by
                          refine Lib.hid ⟨hown12, Blk.grown hq.out.2.2.1 hgr (fun e => ?_), Only.grown hq.out.2.2.2.1 hgr (fun k hk => ?_), Blk.grown hq.out.2.2.2.2.1 hgr (fun e => (hne2 _ e).1 rfl), Blk.grown hq.out.2.2.2.2.2.1 hgr (fun e => ?_), World.ownsRow.kept hq.out.2.2.2.2.2.2.1 hgr (.inr (fun e => (hne2 g9 e.symm).2 rfl)), fun k hk => ?_, Nat.le_trans hq.out.2.2.2.2.2.2.2.2 hsz⟩
                          · have := (hlt2 _ e).1; omega
                          · have := (hlt2 _ hk).1; omega
                          · have := (hlt2 _ e).1; omega
                          · rcases hnew with h | h
                            · rw [h] at hk; exact hne2 k hk
                            · rw [h] at hk
                              have : wr.heap.size = k := by injection hk
                              omega
                        clear hown12 hgr hnew hlt2 hne2 hsz e12
                        have hgk := hq.out.1
                        go_wp2
                        go_roundg (gk - 1)
                        case measure => omega
                        case rel => exact ⟨j + 1, A3, c3, by go_num, rfl, by show j + 1 + (gk - 1) = kn; omega, H12.out⟩
                      · have hjk : j = kn := by have := hq.out.1; omega
                        subst hjk
                        have k0 : wr.cell? ⟨Cb, 0, none⟩ = some (.int .i32 r) := Blk.cell hq.out.2.2.2.2.1 0
                        have k1 : wr.cell? ⟨Cb, 1, none⟩ = some (.int .u8 f) := Blk.cell hq.out.2.2.2.2.1 1
                        have k2 : wr.cell? ⟨Cb, 2, none⟩ = some (.int .u8 b) := Blk.cell hq.out.2.2.2.2.1 2
                        have k3 : wr.cell? ⟨Cb, 3, none⟩ = some (.int .u8 a) := Blk.cell hq.out.2.2.2.2.1 3
                        have u0 : wr.cell? ⟨Q, 0, none⟩ = some (.int .i32 ah.r) := Blk.cell hq.out.2.2.2.2.2.1 0
                        have u1 : wr.cell? ⟨Q, 1, none⟩ = some (.int .u8 ah.f) := Blk.cell hq.out.2.2.2.2.2.1 1
                        have u2 : wr.cell? ⟨Q, 2, none⟩ = some (.int .u8 ah.b) := Blk.cell hq.out.2.2.2.2.2.1 2
                        have u3 : wr.cell? ⟨Q, 3, none⟩ = some (.int .u8 ah.a) := Blk.cell hq.out.2.2.2.2.2.1 3
                        have f0 := Blk.frozen hq.out.2.2.2.2.2.1 0
                        have f1 := Blk.frozen hq.out.2.2.2.2.2.1 1
                        have f2 := Blk.frozen hq.out.2.2.2.2.2.1 2
                        have f3 := Blk.frozen hq.out.2.2.2.2.2.1 3
                        have hbs := (((Blk.set_ hq.out.2.2.2.2.2.1 0 (.int .i32 r)).set_ 1 (.int .u8 f)).set_ 2 (.int .u8 b)).set_ 3 (.int .u8 a)
                        have hrs := Blk.apart (i := 3) (v := .int .u8 a) (Blk.apart (i := 2) (v := .int .u8 b) (Blk.apart (i := 1) (v := .int .u8 f) (Blk.apart (i := 0) (v := .int .i32 r) hq.out.2.2.1 hgQ.symm) hgQ.symm) hgQ.symm) hgQ.symm
                        have hWQ : W.heap.size ≤ Q := by rw [H1.out.2.2.2.2]; exact Nat.le_refl _
                        have hos := (((hq.out.2.2.2.1.fresh (i := 0) hWQ (.int .i32 r)).fresh (i := 1) hWQ (.int .u8 f)).fresh (i := 2) hWQ (.int .u8 b)).fresh (i := 3) hWQ (.int .u8 a)
                        have how := own_kept4 hq.out.2.1 (w' := (((wr.setCell ⟨Q, 0, none⟩ (.int .i32 r)).setCell ⟨Q, 1, none⟩ (.int .u8 f)).setCell ⟨Q, 2, none⟩ (.int .u8 b)).setCell ⟨Q, 3, none⟩ (.int .u8 a)) (fun g' hg' _ => by
                          rw [Below.heap_setCell _ _ _ _ (show g' ≠ Q by omega), Below.heap_setCell _ _ _ _ (show g' ≠ Q by omega), Below.heap_setCell _ _ _ _ (show g' ≠ Q by omega), Below.heap_setCell _ _ _ _ (show g' ≠ Q by omega)])
                        have HE := Lib.hid (And.intro hbs (And.intro hrs (And.intro hos how))); clear hbs hrs hos how hWQ
                        obtain ⟨f9, hf9, hR9⟩ := HNX.out
                        have HR9 := Lib.hid hR9; clear hR9
                        have hlen2 : (out ++ timesL j one).length = O + j * 2 := by rw [List.length_append, timesL_len, HONE.out.1, HO.out]
                        have HL2 := Lib.hid hlen2; clear hlen2
                        go_wp2_with fail
                        go_roundg (go - 1)
                        case measure => have := HGO.out; have := hin.out.2.1; omega
                        case rel =>
                          refine ⟨out ++ timesL j one, B2, d2, ⟨r, f, b, a⟩, p5, rfl, by rw [HL2.out]; exact hON, by rw [HL2.out]; have := HGO.out; have := hin.out.2.1; omega, ⟨f9, by rw [HL2.out]; omega, HR9.out⟩, HW3.out.2.2.2.2.1.1, HE.out.2.1, HE.out.1, HE.out.2.2.2, fun x hx => ?_, HE.out.2.2.1, ?_⟩
                          · rcases List.mem_append.1 hx with hx | hx
                            · exact hin.out.2.2.2.2.2.2.2.1 x hx
                            · exact HONE.out.2.1 x (timesL_mem hx)
                          · simpa [World.setCell] using hq.out.2.2.2.2.2.2.2.2
                  · refine (Err_bad _ g s p5 c5 hc5 (Blk.ext HS.out.1 HX.out)).mono ?_
                    rintro e w10 ⟨rfl, x10⟩
                    have h10 := HX.out.trans x10
                    clear HX x10 k0 k1 k2 k3 u0 u1 u2 u3 hE
                    have HX := Lib.hid h10; clear h10
                    have hR5 := HW3.out.2.2.2.2.2.1 hc5
                    go_wp2_with fail
                    go_ret
                    refine ⟨_, rfl, ?_, ?_, HS.out.2.1.ext HX.out⟩
                    · rw [hR5]; exact NewC.nil _ _
                    · rw [hR5]; exact Blk.ext HS.out.1 HX.out
      · have hR := hin.out.2.2.1
        obtain ⟨fu, hfu, hRR⟩ := hR
        rw [readGo_done _ _ _ _ _ _ (by rw [HO.out]; exact hlt)] at hRR
        have HRR := Lib.hid hRR; clear hRR hfu
        go_wp2_with fail
        refine (Err_ok wr g s p hin.out.2.2.2.2.1).mono ?_
        rintro e w2 ⟨rfl, x2⟩
        have HX2 := Lib.hid x2; clear x2
        go_wp2_with fail
        go_ret
        refine ⟨_, rfl, ?_, ?_, hin.out.2.2.2.2.2.2.2.2.1.ext HX2.out⟩
        · rw [← HRR.out]
          have hi : NewC W w2 _ out := ⟨(hin.out.2.2.2.2.2.2.1.ext HX2.out).low (by rw [H1.out.2.2.2.2]; omega), hin.out.2.2.2.2.2.2.2.1⟩
          exact hi
        · rw [← HRR.out]; exact Blk.ext hin.out.2.2.2.2.1 HX2.out
end Go.Proofs.YtcmllaeihnmkkaaDoor
