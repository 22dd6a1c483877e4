/- Reading a row of cells: the document's Read (chapter 5). -/
import Derived.Test.YtcmllaeihnmkkaaDoorU12
namespace Go.Proofs.YtcmllaeihnmkkaaDoor
open Go Go.RowKit
attribute [local go_sem 10000] eq_cel

theorem runAt_eq {s : ByteArray} {p : Nat} {c : Int} {k r f b a : Int} {p1 p2 p3 p4 p5 : Nat} {c1 c2 c3 c4 c5 : Int}
    (e1 : numF s p c 0 4095 = (k, p1, c1)) (e2 : numF s p1 c1 0 1114111 = (r, p2, c2)) (e3 : numF s p2 c2 0 255 = (f, p3, c3)) (e4 : numF s p3 c3 0 255 = (b, p4, c4)) (e5 : numF s p4 c4 0 255 = (a, p5, c5)) : runAt s p c = ⟨k, ⟨r, f, b, a⟩, p5, c5⟩ := by
  unfold runAt
  simp only [e1, e2, e3, e4, e5]
theorem isCells_none (w : World) : IsCells w (.slice none 0 0) [] := ⟨none, 0, rfl, ⟨Nat.le_refl _, fun _ => rfl⟩, fun i x hi => by cases hi⟩
set_option maxHeartbeats 8000000 in
set_option maxRecDepth 100000 in
theorem RefRead_all (W : World) (g : Nat) (s : ByteArray) (n : Int) (hs : s.size ≤ 1000000) (h : RefAt W g s 0 0) :
    Calls Tryd.prog 17 #[.pointer (some ⟨g, 0, none⟩), .int .i64 n] W fun e w' => ∃ v', e = .returned v' ∧ IsCells w' v' (readC s n).1 ∧ RefAt w' g s (readC s n).2.1 (readC s n).2.2 ∧ Only g W w' := by
  have hgW := Blk.lt h
  obtain ⟨R, hR⟩ : ∃ R, readC s n = R := ⟨_, rfl⟩
  rw [hR]
  have H := Lib.hid (And.intro h (And.intro hs (And.intro hR hgW))); clear h hs hR hgW
  go_enter Tryd.func17, Tryd.ntmps17
  by_cases hb : n < 0 ∨ 4096 < n
  · have hre : R = ([], 0, 1) := by rw [← H.out.2.2.1]; unfold readC; rw [if_pos hb]
    subst hre
    have hF := RefFail_ok W g s 0 1 H.out.1
    have HF := Lib.hid hF; clear hF
    have hs1 : ∀ P : Prop, (n < 0 → P) → (¬ n < 0 → 4096 < n → P) → P := fun P h1 h2 => by
      by_cases h3 : n < 0
      · exact h1 h3
      · exact h2 h3 (by omega)
    clear hb
    apply hs1
    all_goals
      intros
      go_wp2_with fail
      refine HF.out.mono ?_
      rintro e w1 ⟨rfl, h1, x1⟩
      have H1 := Lib.hid (And.intro h1 x1); clear h1 x1
      go_wp2_with fail
      have H2 := Lib.hid (And.intro (Blk.ext H1.out.1 ((Ext.refl w1).alloc (.cells #[.int .i32 0, .int .u8 0, .int .u8 0, .int .u8 0] 57))) (H1.out.2.alloc (.cells #[.int .i32 0, .int .u8 0, .int .u8 0, .int .u8 0] 57)))
      go_loopg [5] 0 (fun k u wr => u = .slice none 0 0 ∧ Hid (RefAt wr g s 0 1 ∧ Only g W wr))
      case atStart => exact ⟨rfl, H2.out⟩
      case round =>
        obtain ⟨rfl, hin⟩ := hrel
        have z2 : wr.cell? ⟨g, 2, none⟩ = some (.int .i64 1) := Blk.cell hin.out.1 2
        go_wp2_with fail
        go_ret
        exact ⟨_, rfl, isCells_none _, hin.out.1, hin.out.2⟩
  · obtain ⟨N, rfl⟩ : ∃ N : Nat, n = (N : Int) := ⟨n.toNat, by omega⟩
    have hN : N ≤ 4096 := by omega
    have hre : readGo s N N [] Cel.zero 0 = R := by rw [← H.out.2.2.1]; unfold readC; rw [if_neg hb]; simp
    have HRE := Lib.hid hre; clear hre hb
    go_wp2_with fail
    have hq : Blk (W.alloc (.cells #[.int .i32 0, .int .u8 0, .int .u8 0, .int .u8 0] 57)) W.heap.size 57 #[.int .i32 Cel.zero.r, .int .u8 Cel.zero.f, .int .u8 Cel.zero.b, .int .u8 Cel.zero.a] := Go.heap_alloc_new W _
    have hr1 := Blk.ext H.out.1 ((Ext.refl W).alloc (.cells #[.int .i32 0, .int .u8 0, .int .u8 0, .int .u8 0] 57))
    have ho1 := (Only.refl g W).alloc (.cells #[.int .i32 0, .int .u8 0, .int .u8 0, .int .u8 0] 57)
    have hz1 : (W.alloc (.cells #[.int .i32 0, .int .u8 0, .int .u8 0, .int .u8 0] 57)).heap.size = W.heap.size + 1 := by simp
    generalize W.alloc (.cells #[.int .i32 0, .int .u8 0, .int .u8 0, .int .u8 0] 57) = w1 at hq hr1 ho1 hz1 ⊢
    have hgQ : W.heap.size ≠ g := by have := H.out.2.2.2; omega
    generalize hQ : W.heap.size = Q at hq hgQ hz1 ⊢
    have H1 := Lib.hid (And.intro hq (And.intro hr1 (And.intro ho1 (And.intro hz1 hQ)))); clear hq hr1 ho1 hz1 hQ
    go_loopg [5] N (fun k u wr => ∃ (out : List Cel) (B : Option Addr) (d : Nat) (ah : Cel) (p : Nat), u = .slice B out.length d ∧ Hid (out.length ≤ N ∧ N ≤ out.length + k ∧ (∃ fu, N ≤ out.length + fu ∧ readGo s N fu out ah p = R) ∧ p ≤ s.size ∧ RefAt wr g s p 0 ∧ Blk wr Q 57 #[.int .i32 ah.r, .int .u8 ah.f, .int .u8 ah.b, .int .u8 ah.a] ∧ OwnC wr (Q + 1) (.slice B out.length d) out ∧ (∀ x, x ∈ out → x.ok) ∧ Only g W wr ∧ Q + 1 ≤ wr.heap.size ∧ (out.length = 0 → ah = Cel.zero)))
    case atStart => exact ⟨[], none, 0, Cel.zero, 0, rfl, Nat.zero_le _, by simp, ⟨N, by simp, HRE.out⟩, Nat.zero_le _, H1.out.2.1, H1.out.1, OwnC.nil _ _, (fun x hx => by cases hx), H1.out.2.2.1, by rw [H1.out.2.2.2.1]; exact Nat.le_refl _, fun _ => rfl⟩
    case round =>
      obtain ⟨out, B, d, ah, p, rfl, hin⟩ := hrel
      generalize hO : out.length = O at hin ⊢
      have HO := Lib.hid hO; clear hO
      have z2 : wr.cell? ⟨g, 2, none⟩ = some (.int .i64 0) := Blk.cell hin.out.2.2.2.2.1 2
      by_cases hlt : O < N
      · obtain ⟨k, p1, c1, e1⟩ : ∃ k p1 c1, numF s p 0 0 4095 = (k, p1, c1) := ⟨_, _, _, rfl⟩
        obtain ⟨r, p2, c2, e2⟩ : ∃ k p c, numF s p1 c1 0 1114111 = (k, p, c) := ⟨_, _, _, rfl⟩
        obtain ⟨f, p3, c3, e3⟩ : ∃ k p c, numF s p2 c2 0 255 = (k, p, c) := ⟨_, _, _, rfl⟩
        obtain ⟨b, p4, c4, e4⟩ : ∃ k p c, numF s p3 c3 0 255 = (k, p, c) := ⟨_, _, _, rfl⟩
        obtain ⟨a, p5, c5, e5⟩ : ∃ k p c, numF s p4 c4 0 255 = (k, p, c) := ⟨_, _, _, rfl⟩
        have hRA := runAt_eq e1 e2 e3 e4 e5
        have i1 := numF_ok s p 0 0 4095 hin.out.2.2.2.1 (by unfold okC; omega)
        have r1 := numF_range s p 0 4095 (by omega)
        rw [e1] at i1 r1
        have i2 := numF_ok s p1 c1 0 1114111 i1.1 i1.2
        have r2 := numF_range s p1 c1 1114111 (by omega)
        rw [e2] at i2 r2
        have i3 := numF_ok s p2 c2 0 255 i2.1 i2.2
        have r3 := numF_range s p2 c2 255 (by omega)
        rw [e3] at i3 r3
        have i4 := numF_ok s p3 c3 0 255 i3.1 i3.2
        have r4 := numF_range s p3 c3 255 (by omega)
        rw [e4] at i4 r4
        have i5 := numF_ok s p4 c4 0 255 i4.1 i4.2
        have r5 := numF_range s p4 c4 255 (by omega)
        rw [e5] at i5 r5
        have hsz := H.out.2.1
        have C1 := fun W' (hW : RefAt W' g s p 0) => RefNum_all W' g s p 0 0 4095 hsz hin.out.2.2.2.1 hW
        have C2 := fun W' (hW : RefAt W' g s p1 c1) => RefNum_all W' g s p1 c1 0 1114111 hsz i1.1 hW
        have C3 := fun W' (hW : RefAt W' g s p2 c2) => RefNum_all W' g s p2 c2 0 255 hsz i2.1 hW
        have C4 := fun W' (hW : RefAt W' g s p3 c3) => RefNum_all W' g s p3 c3 0 255 hsz i3.1 hW
        have C5 := fun W' (hW : RefAt W' g s p4 c4) => RefNum_all W' g s p4 c4 0 255 hsz i4.1 hW
        rw [e1] at C1
        rw [e2] at C2
        rw [e3] at C3
        rw [e4] at C4
        rw [e5] at C5
        simp only at r1 r2 r3 r4 r5 C1 C2 C3 C4 C5
        have m2 : wrap32 r = r := by unfold wrap32; omega
        have m3 : f % 256 = f := by omega
        have m4 : b % 256 = b := by omega
        have m5 : a % 256 = a := by omega
        have hcok : Cel.ok ⟨r, f, b, a⟩ := by refine ⟨by unfold isI32; simp only; omega, ?_, ?_, ?_⟩ <;> (unfold isU8; simp only; omega)
        have HC := Lib.hid (And.intro C1 (And.intro C2 (And.intro C3 (And.intro C4 C5)))); clear C1 C2 C3 C4 C5 e1 e2 e3 e4 e5 i1 i2 i3 i4 hsz
        have HRA := Lib.hid (And.intro hRA (And.intro i5.1 hcok)); clear hRA i5 hcok
        go_wp2_with fail
        refine (HC.out.1 _ hin.out.2.2.2.2.1).mono ?_
        rintro e w1 ⟨rfl, h1, x1⟩
        have H2 := Lib.hid (And.intro h1 x1); clear h1 x1 z2
        go_wp2_with fail
        refine (HC.out.2.1 _ H2.out.1).mono ?_
        rintro e w2 ⟨rfl, h2, x2⟩
        have H3 := Lib.hid (And.intro h2 (H2.out.2.trans x2)); clear h2 x2 H2
        go_wp2_with fail
        refine (HC.out.2.2.1 _ H3.out.1).mono ?_
        rintro e w3 ⟨rfl, h3, x3⟩
        have H4 := Lib.hid (And.intro h3 (H3.out.2.trans x3)); clear h3 x3 H3
        go_wp2_with fail
        have b3 : Blk (w3.alloc (.cells #[.int .i32 r, .int .u8 f, .int .u8 0, .int .u8 0] 57)) w3.heap.size 57 #[.int .i32 r, .int .u8 f, .int .u8 0, .int .u8 0] := Go.heap_alloc_new w3 _
        have q3 := Blk.ext H4.out.1 ((Ext.refl w3).alloc (.cells #[.int .i32 r, .int .u8 f, .int .u8 0, .int .u8 0] 57))
        have o3 := H4.out.2.alloc (.cells #[.int .i32 r, .int .u8 f, .int .u8 0, .int .u8 0] 57)
        have z3 : (w3.alloc (.cells #[.int .i32 r, .int .u8 f, .int .u8 0, .int .u8 0] 57)).heap.size = w3.heap.size + 1 := by simp
        have hgC : w3.heap.size ≠ g := by have := Blk.lt H4.out.1; omega
        have hwr3 : wr.heap.size ≤ w3.heap.size := H4.out.2.size
        have hQr := hin.out.2.2.2.2.2.2.2.2.2.1
        generalize w3.alloc (.cells #[.int .i32 r, .int .u8 f, .int .u8 0, .int .u8 0] 57) = w4 at b3 q3 o3 z3 ⊢
        generalize w3.heap.size = Cb at b3 z3 hgC hwr3 ⊢
        have H5 := Lib.hid (And.intro b3 (And.intro q3 (And.intro o3 (And.intro z3 (And.intro hwr3 hQr))))); clear b3 q3 o3 z3 H4 hwr3 hQr
        refine (HC.out.2.2.2.1 _ H5.out.2.1).mono ?_
        rintro e w5 ⟨rfl, h5, x5⟩
        have b5 : Blk w5 Cb 57 #[.int .i32 r, .int .u8 f, .int .u8 0, .int .u8 0] := Blk.only H5.out.1 x5 hgC
        have k5 : w5.cell? ⟨Cb, 2, none⟩ = some (.int .u8 0) := b5.cell 2
        have f5 : w5.frozen? ⟨Cb, 2, none⟩ = false := b5.frozen 2
        have o5 := H5.out.2.2.1.trans x5
        have hCb : wr.heap.size ≤ Cb := H5.out.2.2.2.2.1
        have H6 := Lib.hid (And.intro (Blk.apart (i := 2) (v := .int .u8 b) h5 hgC.symm) (And.intro (b5.set_ 2 (.int .u8 b)) (o5.fresh (i := 2) hCb (.int .u8 b)))); clear h5 x5 b5 o5
        go_wp2_with fail
        clear k5 f5
        generalize w5.setCell ⟨Cb, 2, none⟩ (.int .u8 b) = w6 at H6 ⊢
        refine (HC.out.2.2.2.2 _ H6.out.1).mono ?_
        rintro e w7 ⟨rfl, h7, x7⟩
        have b7 : Blk w7 Cb 57 #[.int .i32 r, .int .u8 f, .int .u8 b, .int .u8 0] := Blk.only H6.out.2.1 x7 hgC
        have k7 : w7.cell? ⟨Cb, 3, none⟩ = some (.int .u8 0) := b7.cell 3
        have f7 : w7.frozen? ⟨Cb, 3, none⟩ = false := b7.frozen 3
        have o7 := H6.out.2.2.trans x7
        have H8 := Lib.hid (And.intro (Blk.apart (i := 3) (v := .int .u8 a) h7 hgC.symm) (And.intro (b7.set_ 3 (.int .u8 a)) (o7.fresh (i := 3) hCb (.int .u8 a)))); clear h7 x7 b7 o7
        have z2 : (w7.setCell ⟨Cb, 3, none⟩ (.int .u8 a)).cell? ⟨g, 2, none⟩ = some (.int .i64 c5) := Blk.cell H8.out.1 2
        by_cases hc5 : c5 = 0
        · subst hc5
          have k0 : (w7.setCell ⟨Cb, 3, none⟩ (.int .u8 a)).cell? ⟨Cb, 0, none⟩ = some (.int .i32 r) := Blk.cell H8.out.2.1 0
          have k1 : (w7.setCell ⟨Cb, 3, none⟩ (.int .u8 a)).cell? ⟨Cb, 1, none⟩ = some (.int .u8 f) := Blk.cell H8.out.2.1 1
          have k2 : (w7.setCell ⟨Cb, 3, none⟩ (.int .u8 a)).cell? ⟨Cb, 2, none⟩ = some (.int .u8 b) := Blk.cell H8.out.2.1 2
          have k3 : (w7.setCell ⟨Cb, 3, none⟩ (.int .u8 a)).cell? ⟨Cb, 3, none⟩ = some (.int .u8 a) := Blk.cell H8.out.2.1 3
          go_wp2_with fail
          generalize w7.setCell ⟨Cb, 3, none⟩ (.int .u8 a) = w8 at H8 ⊢
          clear k0 k1 k2 k3 z2 k7 f7
          have HR8 := Lib.hid (And.intro (Blk.only hin.out.2.2.2.2.2.1 (show Only g wr w8 from H8.out.2.2) hgQ) (And.intro (OwnC.only hin.out.2.2.2.2.2.2.1 H8.out.2.2 (by have := H.out.2.2.2; have := H1.out.2.2.2.2; omega)) (Only.trans hin.out.2.2.2.2.2.2.2.2.1 H8.out.2.2)))
          have hlt3 : ∀ k, (Value.slice B O d).ownBlock = some k → Q + 1 ≤ k ∧ k < wr.heap.size := fun k hk => World.ownsRow.lt hin.out.2.2.2.2.2.2.1 k hk
          have HLT := Lib.hid hlt3; clear hlt3
          have x8 := Ext.refl w8
          have HX := Lib.hid x8; clear x8
          refine (RefCheck_of ⟨r, f, b, a⟩ _ HRA.out.2.2).mono ?_
          rintro e w9 ⟨rfl, x9⟩
          have h9 := HX.out.trans x9
          clear HX x9
          have HX := Lib.hid h9; clear h9
          have k0 : w9.cell? ⟨Cb, 0, none⟩ = some (.int .i32 r) := Blk.cell (Blk.ext H8.out.2.1 HX.out) 0
          have k1 : w9.cell? ⟨Cb, 1, none⟩ = some (.int .u8 f) := Blk.cell (Blk.ext H8.out.2.1 HX.out) 1
          have k2 : w9.cell? ⟨Cb, 2, none⟩ = some (.int .u8 b) := Blk.cell (Blk.ext H8.out.2.1 HX.out) 2
          have k3 : w9.cell? ⟨Cb, 3, none⟩ = some (.int .u8 a) := Blk.cell (Blk.ext H8.out.2.1 HX.out) 3
          generalize hCH : Cel.check ⟨r, f, b, a⟩ = CH
          have HCH := Lib.hid hCH; clear hCH
          go_wp2_with fail
          refine (RefWide_of ⟨r, f, b, a⟩ _ HRA.out.2.2).mono ?_
          rintro e wA ⟨rfl, x9⟩
          have h9 := HX.out.trans x9
          clear HX x9 k0 k1 k2 k3
          have HX := Lib.hid h9; clear h9
          have k0 : wA.cell? ⟨Cb, 0, none⟩ = some (.int .i32 r) := Blk.cell (Blk.ext H8.out.2.1 HX.out) 0
          have k1 : wA.cell? ⟨Cb, 1, none⟩ = some (.int .u8 f) := Blk.cell (Blk.ext H8.out.2.1 HX.out) 1
          have k2 : wA.cell? ⟨Cb, 2, none⟩ = some (.int .u8 b) := Blk.cell (Blk.ext H8.out.2.1 HX.out) 2
          have k3 : wA.cell? ⟨Cb, 3, none⟩ = some (.int .u8 a) := Blk.cell (Blk.ext H8.out.2.1 HX.out) 3
          have hbad := readGo_bad s N
          obtain ⟨fu, hfu, hRR⟩ := hin.out.2.2.1
          have hbad := readGo_bad s N fu out ah p (by rw [HO.out]; exact hlt) (by rw [HO.out]; exact hfu) (by rw [HRA.out.1])
          rw [HRA.out.1, hRR] at hbad
          have HBAD := Lib.hid (And.intro hbad hfu); clear hbad hfu hRR
          have HFL := Lib.hid (RefFail_ok wA g s p5 10)
          generalize hWD : Cel.wide ⟨r, f, b, a⟩ = WD
          have HWD := Lib.hid hWD; clear hWD
          cases CH with
          | false =>
            have hR9 := HBAD.out.1 (by unfold badRun; rw [HCH.out]; rfl)
            have HR9 := Lib.hid hR9; clear hR9
            cases WD with
            | true =>
              go_wp2_with fail
              refine (RefFail_ok wA g s p5 10 (Blk.ext H8.out.1 HX.out)).mono ?_
              rintro e wB ⟨rfl, hB, xB⟩
              go_wp2_with fail
              go_ret
              exact ⟨_, rfl, by rw [HR9.out]; exact isCells_none _, by rw [HR9.out]; exact hB, (HR8.out.2.2.ext HX.out).trans xB⟩
            | false =>
              go_wp2_with fail
              refine (RefFail_ok wA g s p5 10 (Blk.ext H8.out.1 HX.out)).mono ?_
              rintro e wB ⟨rfl, hB, xB⟩
              go_wp2_with fail
              go_ret
              exact ⟨_, rfl, by rw [HR9.out]; exact isCells_none _, by rw [HR9.out]; exact hB, (HR8.out.2.2.ext HX.out).trans xB⟩
          | true =>
            cases WD with
            | true =>
              have hst : Cel.step ⟨r, f, b, a⟩ = 2 := by unfold Cel.step; rw [HWD.out]; rfl
              have hST := Lib.hid hst; clear hst
              go_wp2_with fail
              refine (RefTl_of ⟨r, f, b, a⟩ _ HRA.out.2.2).mono ?_
              rintro e wB ⟨rfl, x9⟩
              have h9 := HX.out.trans x9
              clear HX x9 k0 k1 k2 k3 HFL
              have HX := Lib.hid h9; clear h9
              have k0 : wB.cell? ⟨Cb, 0, none⟩ = some (.int .i32 r) := Blk.cell (Blk.ext H8.out.2.1 HX.out) 0
              have k1 : wB.cell? ⟨Cb, 1, none⟩ = some (.int .u8 f) := Blk.cell (Blk.ext H8.out.2.1 HX.out) 1
              have k2 : wB.cell? ⟨Cb, 2, none⟩ = some (.int .u8 b) := Blk.cell (Blk.ext H8.out.2.1 HX.out) 2
              have k3 : wB.cell? ⟨Cb, 3, none⟩ = some (.int .u8 a) := Blk.cell (Blk.ext H8.out.2.1 HX.out) 3
              generalize hTT : Cel.tl ⟨r, f, b, a⟩ = T
              have hT := Lib.hid hTT; clear hTT
              cases T with
              | true =>
                have hR9 := HBAD.out.1 (by unfold badRun; rw [HCH.out, hT.out]; rfl)
                have HR9 := Lib.hid hR9; clear hR9
                go_wp2_with fail
                refine (RefFail_ok wB g s p5 10 (Blk.ext H8.out.1 HX.out)).mono ?_
                rintro e wC ⟨rfl, hB, xB⟩
                go_wp2_with fail
                go_ret
                exact ⟨_, rfl, by rw [HR9.out]; exact isCells_none _, by rw [HR9.out]; exact hB, (HR8.out.2.2.ext HX.out).trans xB⟩
              | false =>
                by_cases hO0 : O = 0
                · have hz := hin.out.2.2.2.2.2.2.2.2.2.2 hO0
                  have hO1 : decide ((0 : Int) < (O : Int)) = false := by simp [hO0]
                  have hO2 : decide (0 < O) = false := by simp [hO0]
                  have HO0 := Lib.hid hO0; clear hO0
                  have hne : decide ((⟨r, f, b, a⟩ : Cel) = ah) = false := decide_eq_false fun e => by
                    have h1 := HCH.out
                    rw [e, hz] at h1
                    rw [zero_check] at h1
                    cases h1
                  have hNE := Lib.hid hne; clear hne hz
                  by_cases hG : (N : Int) < (O : Int) + (k + 1) * 2
                  · have hR9 := HBAD.out.1 (by unfold badRun; rw [HCH.out, hT.out, hNE.out, hST.out, HO.out, decide_eq_true (show (N : Int) < (O : Int) + (k + 1) * ((2 : Nat) : Int) by omega)]; rfl)
                    have HR9 := Lib.hid hR9; clear hR9
                    go_wp2_with fail
                    refine (RefFail_ok wB g s p5 10 (Blk.ext H8.out.1 HX.out)).mono ?_
                    rintro e wC ⟨rfl, hB, xB⟩
                    go_wp2_with fail
                    go_ret
                    exact ⟨_, rfl, by rw [HR9.out]; exact isCells_none _, by rw [HR9.out]; exact hB, (HR8.out.2.2.ext HX.out).trans xB⟩
                  · have hG0 : (O : Int) + (k + 1) * 2 ≤ N := by omega
                    obtain ⟨kn, hkn⟩ : ∃ kn : Nat, k = (kn : Int) - 1 := ⟨(k + 1).toNat, by omega⟩
                    have hkb : 1 ≤ kn ∧ kn ≤ 4096 := by omega
                    have hON : O + kn * 2 ≤ N := by omega
                    have hnb : badRun N out ah k ⟨r, f, b, a⟩ = false := by
                      unfold badRun
                      rw [HCH.out, hT.out, hNE.out, hST.out, HO.out, decide_eq_false (show ¬ (N : Int) < (O : Int) + (k + 1) * ((2 : Nat) : Int) by omega)]; rfl
                    have hnx : ∃ f1, N ≤ O + (f1 + 1) ∧ readGo s N f1 (out ++ timesL kn (bothL ⟨r, f, b, a⟩)) ⟨r, f, b, a⟩ p5 = R := by
                      obtain ⟨fu, hfu, hRR⟩ := hin.out.2.2.1
                      cases fu with
                      | zero => omega
                      | succ f1 =>
                        refine ⟨f1, hfu, ?_⟩
                        have h1 := readGo_step s N f1 out ah p (by rw [HO.out]; exact hlt) (by rw [HRA.out.1]) (by rw [HRA.out.1]; exact hnb)
                        rw [HRA.out.1] at h1
                        simp only at h1
                        rw [show (k + 1).toNat = kn by omega] at h1
                        rw [← h1]; exact hRR
                    have HNX := Lib.hid (And.intro hnx (And.intro hON hkb)); clear hnb hnx
                    have v0 : wB.cell? ⟨Q, 0, none⟩ = some (.int .i32 ah.r) := Blk.cell (Blk.ext HR8.out.1 HX.out) 0
                    have v1 : wB.cell? ⟨Q, 1, none⟩ = some (.int .u8 ah.f) := Blk.cell (Blk.ext HR8.out.1 HX.out) 1
                    have v2 : wB.cell? ⟨Q, 2, none⟩ = some (.int .u8 ah.b) := Blk.cell (Blk.ext HR8.out.1 HX.out) 2
                    have v3 : wB.cell? ⟨Q, 3, none⟩ = some (.int .u8 ah.a) := Blk.cell (Blk.ext HR8.out.1 HX.out) 3
                    have f0 := Blk.frozen (Blk.ext HR8.out.1 HX.out) 0
                    have f1 := Blk.frozen (Blk.ext HR8.out.1 HX.out) 1
                    have f2 := Blk.frozen (Blk.ext HR8.out.1 HX.out) 2
                    have f3 := Blk.frozen (Blk.ext HR8.out.1 HX.out) 3
                    have hbs := (((Blk.set_ (Blk.ext HR8.out.1 HX.out) 0 (.int .i32 r)).set_ 1 (.int .u8 f)).set_ 2 (.int .u8 b)).set_ 3 (.int .u8 a)
                    have hrs := Blk.apart (i := 3) (v := .int .u8 a) (Blk.apart (i := 2) (v := .int .u8 b) (Blk.apart (i := 1) (v := .int .u8 f) (Blk.apart (i := 0) (v := .int .i32 r) (Blk.ext H8.out.1 HX.out) hgQ.symm) hgQ.symm) hgQ.symm) hgQ.symm
                    have hCQ : Cb ≠ Q := by have := H5.out.2.2.2.2.1; have := H5.out.2.2.2.2.2; omega
                    have hcs := Blk.apart (i := 3) (v := .int .u8 a) (Blk.apart (i := 2) (v := .int .u8 b) (Blk.apart (i := 1) (v := .int .u8 f) (Blk.apart (i := 0) (v := .int .i32 r) (Blk.ext H8.out.2.1 HX.out) hCQ) hCQ) hCQ) hCQ
                    have hWQ : W.heap.size ≤ Q := by rw [H1.out.2.2.2.2]; exact Nat.le_refl _
                    have hos := ((((HR8.out.2.2.ext HX.out).fresh (i := 0) hWQ (.int .i32 r)).fresh (i := 1) hWQ (.int .u8 f)).fresh (i := 2) hWQ (.int .u8 b)).fresh (i := 3) hWQ (.int .u8 a)
                    have how := own_kept4 (HR8.out.2.1.ext HX.out) (w' := (((wB.setCell ⟨Q, 0, none⟩ (.int .i32 r)).setCell ⟨Q, 1, none⟩ (.int .u8 f)).setCell ⟨Q, 2, none⟩ (.int .u8 b)).setCell ⟨Q, 3, none⟩ (.int .u8 a)) (fun g' hg' _ => by
                      rw [Below.heap_setCell _ _ _ _ (show g' ≠ Q by omega), Below.heap_setCell _ _ _ _ (show g' ≠ Q by omega), Below.heap_setCell _ _ _ _ (show g' ≠ Q by omega), Below.heap_setCell _ _ _ _ (show g' ≠ Q by omega)])
                    have HE := Lib.hid (And.intro hbs (And.intro hrs (And.intro hcs (And.intro hos (And.intro how hCQ))))); clear hbs hrs hcs hos how hWQ hCQ
                    have hbl : (bothL ⟨r, f, b, a⟩).length = 2 := by rw [bothL_len]; exact hST.out
                    have hbe : bothL ⟨r, f, b, a⟩ = [⟨r, f, b, a⟩, Cel.tail ⟨r, f, b, a⟩] := by unfold bothL; rw [HWD.out]; rfl
                    generalize hON1 : bothL ⟨r, f, b, a⟩ = one at hbl hbe HNX
                    have HONE := Lib.hid (And.intro hbl hbe); clear hON1 hbl hbe
                    have HG := Lib.hid (And.intro hG hG0); clear hG
                    rw [hkn] at hG0 ⊢
                    have HKN := Lib.hid hkn; clear hkn
                    obtain ⟨go, hgo⟩ : ∃ go, go = gk := ⟨_, rfl⟩
                    have HGO := Lib.hid hgo; clear hgo
                    go_wp2_with fail
                    clear v0 v1 v2 v3 f0 f1 f2 f3 k0 k1 k2 k3
                    have hst0 := HE.out.2.2.2.2.1
                    generalize (((wB.setCell ⟨Q, 0, none⟩ (.int .i32 r)).setCell ⟨Q, 1, none⟩ (.int .u8 f)).setCell ⟨Q, 2, none⟩ (.int .u8 b)).setCell ⟨Q, 3, none⟩ (.int .u8 a) = wD at HE hst0 ⊢
                    have hst0 : OwnC wD (Q + 1) (.slice B O d) out := hst0
                    rw [show (Value.slice B O d) = .slice B (out ++ timesL 0 one).length d by rw [timesL_zero, List.append_nil, HO.out]] at hst0
                    go_loopg [5, 12] kn (fun t u z wq => ∃ (j : Nat) (B2 : Option Addr) (d2 : Nat), z = .int .i64 j ∧ u = .slice B2 (out ++ timesL j one).length d2 ∧ Hid (j + t = kn ∧ OwnC wq (Q + 1) (.slice B2 (out ++ timesL j one).length d2) (out ++ timesL j one) ∧ RefAt wq g s p5 0 ∧ Only g W wq ∧ Blk wq Cb 57 #[.int .i32 r, .int .u8 f, .int .u8 b, .int .u8 a] ∧ Blk wq Q 57 #[.int .i32 r, .int .u8 f, .int .u8 b, .int .u8 a] ∧ (∀ k, (Value.slice B2 (out ++ timesL j one).length d2).ownBlock = some k → k ≠ Cb)))
                    case atStart =>
                      refine ⟨0, B, d, rfl, by rw [timesL_zero, List.append_nil, HO.out], Nat.zero_add _, by rw [timesL_zero, List.append_nil] at hst0 ⊢; exact hst0, HE.out.2.1, HE.out.2.2.2.1, HE.out.2.2.1, HE.out.1, fun k hk => ?_⟩
                      have h1 := HLT.out k (by cases B <;> exact hk)
                      have h2 := H5.out.2.2.2.2.1
                      omega
                    case round =>
                      obtain ⟨j, B2, d2, rfl, rfl, hq⟩ := hrel
                      have hlen : (out ++ timesL j one).length ≤ 1000000 := by rw [List.length_append, timesL_len, HONE.out.1, HO.out]; have := hq.out.1; omega
                      have k0 : wr.cell? ⟨Cb, 0, none⟩ = some (.int .i32 r) := Blk.cell hq.out.2.2.2.2.1 0
                      have k1 : wr.cell? ⟨Cb, 1, none⟩ = some (.int .u8 f) := Blk.cell hq.out.2.2.2.2.1 1
                      have k2 : wr.cell? ⟨Cb, 2, none⟩ = some (.int .u8 b) := Blk.cell hq.out.2.2.2.2.1 2
                      have k3 : wr.cell? ⟨Cb, 3, none⟩ = some (.int .u8 a) := Blk.cell hq.out.2.2.2.2.1 3
                      by_cases hj : j < kn
                      · generalize hDD : out ++ timesL j one = D at hq hlen ⊢
                        have HDD := Lib.hid hDD; clear hDD
                        generalize hDN : D.length = DN at hq hlen ⊢
                        have HDN := Lib.hid hDN; clear hDN
                        have hjk : (j : Int) ≤ (kn : Int) - 1 := by omega
                        have hQs : Q + 1 ≤ wr.heap.size := Blk.lt hq.out.2.2.2.2.2.1
                        go_wp2_with (at_builtin; refine wpList_app_cells_at rfl _ _ rfl (Q + 1) (.slice B2 DN d2) D rfl (hq.out.2.1.ext ((Ext.refl wr).alloc (.cells #[.int .i32 r, .int .u8 f, .int .u8 b, .int .u8 a] 57))) wr.heap.size 0 1 1 [⟨r, f, b, a⟩] rfl (cells_one wr ⟨r, f, b, a⟩ HRA.out.2.2) (by rw [HDN.out]; omega) (by simp) (by simp; omega) ?_)
                        intro v' w12 hown12 hgr hnew
                        have hlt2 := fun k hk => World.ownsRow.lt hq.out.2.1 k hk
                        obtain ⟨A3, c3, rfl, _⟩ := hown12.form
                        have hne2 := hq.out.2.2.2.2.2.2
                        have hcl := Blk.lt hq.out.2.2.2.2.1
                        have hWQ := H1.out.2.2.2.2
                        have hgW := H.out.2.2.2
                        have hal := (Ext.refl wr).alloc (.cells #[.int .i32 r, .int .u8 f, .int .u8 b, .int .u8 a] 57)
                        have hsz : (wr.alloc (.cells #[.int .i32 r, .int .u8 f, .int .u8 b, .int .u8 a] 57)).heap.size = wr.heap.size + 1 := by simp
                        have H12 : Hid (OwnC w12 (Q + 1) (.slice A3 (D ++ [(⟨r, f, b, a⟩ : Cel)]).length c3) (D ++ [⟨r, f, b, a⟩]) ∧ RefAt w12 g s p5 0 ∧ Only g W w12 ∧ Blk w12 Cb 57 #[.int .i32 r, .int .u8 f, .int .u8 b, .int .u8 a] ∧ Blk w12 Q 57 #[.int .i32 r, .int .u8 f, .int .u8 b, .int .u8 a] ∧ (∀ k, (Value.slice A3 (D ++ [(⟨r, f, b, a⟩ : Cel)]).length c3).ownBlock = some k → k ≠ Cb)) := by
                          refine Lib.hid ⟨hown12, Blk.grown (Blk.ext hq.out.2.2.1 hal) hgr (fun e => ?_), Only.grown (hq.out.2.2.2.1.ext hal) hgr (fun k hk => ?_), Blk.grown (Blk.ext hq.out.2.2.2.2.1 hal) hgr (fun e => hne2 _ e rfl), Blk.grown (Blk.ext hq.out.2.2.2.2.2.1 hal) hgr (fun e => ?_), fun k hk => ?_⟩
                          · have := (hlt2 _ e).1; omega
                          · have := (hlt2 _ hk).1; omega
                          · have := (hlt2 _ e).1; omega
                          · rcases hnew with h | h
                            · rw [h] at hk; exact hne2 k hk
                            · rw [h] at hk
                              rw [← Option.some.inj hk]
                              omega
                        clear hown12 hgr hnew hlt2 hne2 hsz hal k0 k1 k2 k3
                        have k0 : w12.cell? ⟨Cb, 0, none⟩ = some (.int .i32 r) := Blk.cell H12.out.2.2.2.1 0
                        have k1 : w12.cell? ⟨Cb, 1, none⟩ = some (.int .u8 f) := Blk.cell H12.out.2.2.2.1 1
                        have k2 : w12.cell? ⟨Cb, 2, none⟩ = some (.int .u8 b) := Blk.cell H12.out.2.2.2.1 2
                        have k3 : w12.cell? ⟨Cb, 3, none⟩ = some (.int .u8 a) := Blk.cell H12.out.2.2.2.1 3
                        generalize hEE : D ++ [⟨r, f, b, a⟩] = EE at H12 ⊢
                        have HEE := Lib.hid hEE; clear hEE
                        generalize hEN : EE.length = EN at H12 ⊢
                        have HEN := Lib.hid hEN; clear hEN
                        go_wp2_with fail
                        refine (RefTail_of ⟨r, f, b, a⟩ _ HRA.out.2.2).mono ?_
                        rintro e w13 ⟨rfl, x13⟩
                        have hlt2 := fun k hk => World.ownsRow.lt (H12.out.1.ext x13) k hk
                        have H13 : Hid (OwnC w13 (Q + 1) (.slice A3 EN c3) EE ∧ RefAt w13 g s p5 0 ∧ Only g W w13 ∧ Blk w13 Cb 57 #[.int .i32 r, .int .u8 f, .int .u8 b, .int .u8 a] ∧ Blk w13 Q 57 #[.int .i32 r, .int .u8 f, .int .u8 b, .int .u8 a] ∧ (∀ k, (Value.slice A3 EN c3).ownBlock = some k → k ≠ Cb)) :=
                          Lib.hid ⟨H12.out.1.ext x13, Blk.ext H12.out.2.1 x13, H12.out.2.2.1.ext x13, Blk.ext H12.out.2.2.2.1 x13, Blk.ext H12.out.2.2.2.2.1 x13, H12.out.2.2.2.2.2⟩
                        clear x13 k0 k1 k2 k3 hlt2
                        have hQs3 : Q + 1 ≤ w13.heap.size := Blk.lt H13.out.2.2.2.2.1
                        unfold Cel.tail Cel.val
                        simp only
                        have hen : EN ≤ 1500000 := by have h1 := HEN.out; rw [← HEE.out, List.length_append, HDN.out] at h1; simp at h1; omega
                        go_wp2_with (at_builtin; refine wpList_app_cells_at rfl _ _ rfl (Q + 1) (.slice A3 EN c3) EE rfl (H13.out.1.ext ((Ext.refl w13).alloc (.cells #[.int .i32 0, .int .u8 f, .int .u8 b, .int .u8 (a % 64 + 128)] 57))) w13.heap.size 0 1 1 [Cel.tail ⟨r, f, b, a⟩] rfl (cells_one w13 (Cel.tail ⟨r, f, b, a⟩) (Cel.ok_tail HRA.out.2.2)) (by rw [HEN.out]; omega) (by simp) (by simp; omega) ?_)
                        intro v' w14 hown14 hgr hnew
                        have hlt2 := fun k hk => World.ownsRow.lt H13.out.1 k hk
                        obtain ⟨A4, c4, rfl, _⟩ := hown14.form
                        have hne2 := H13.out.2.2.2.2.2
                        have hcl := Blk.lt H13.out.2.2.2.1
                        have hal := (Ext.refl w13).alloc (.cells #[.int .i32 0, .int .u8 f, .int .u8 b, .int .u8 (a % 64 + 128)] 57)
                        have hsz : (w13.alloc (.cells #[.int .i32 0, .int .u8 f, .int .u8 b, .int .u8 (a % 64 + 128)] 57)).heap.size = w13.heap.size + 1 := by simp
                        have e14 : EE ++ [Cel.tail ⟨r, f, b, a⟩] = out ++ timesL (j + 1) one := by rw [timesL_succ, ← List.append_assoc, HDD.out, HONE.out.2, ← HEE.out, List.append_assoc]; rfl
                        rw [e14] at hown14 hnew ⊢
                        have H14 : Hid (OwnC w14 (Q + 1) (.slice A4 (out ++ timesL (j + 1) one).length c4) (out ++ timesL (j + 1) one) ∧ RefAt w14 g s p5 0 ∧ Only g W w14 ∧ Blk w14 Cb 57 #[.int .i32 r, .int .u8 f, .int .u8 b, .int .u8 a] ∧ Blk w14 Q 57 #[.int .i32 r, .int .u8 f, .int .u8 b, .int .u8 a] ∧ (∀ k, (Value.slice A4 (out ++ timesL (j + 1) one).length c4).ownBlock = some k → k ≠ Cb)) := by
                          refine Lib.hid ⟨hown14, Blk.grown (Blk.ext H13.out.2.1 hal) hgr (fun e => ?_), Only.grown (H13.out.2.2.1.ext hal) hgr (fun k hk => ?_), Blk.grown (Blk.ext H13.out.2.2.2.1 hal) hgr (fun e => hne2 _ e rfl), Blk.grown (Blk.ext H13.out.2.2.2.2.1 hal) hgr (fun e => ?_), fun k hk => ?_⟩
                          · have := (hlt2 _ e).1; omega
                          · have := (hlt2 _ hk).1; omega
                          · have := (hlt2 _ e).1; omega
                          · rcases hnew with h | h
                            · rw [h] at hk; exact hne2 k hk
                            · rw [h] at hk
                              rw [← Option.some.inj hk]
                              omega
                        clear hown14 hgr hnew hlt2 hne2 hsz hal e14
                        have hgk := hq.out.1
                        go_wp2
                        go_roundg (gk - 1)
                        case measure => omega
                        case rel => exact ⟨j + 1, A4, c4, by go_num, rfl, by show j + 1 + (gk - 1) = kn; omega, H14.out⟩
                      · have hjk : j = kn := by have := hq.out.1; omega
                        subst hjk
                        have hjn : ¬ (j : Int) ≤ (j : Int) - 1 := by omega
                        obtain ⟨⟨f9, hf9, hR9⟩, hON, hkb⟩ := HNX.out
                        have HR9 := Lib.hid hR9; clear hR9
                        have hlen2 : (out ++ timesL j one).length = O + j * 2 := by rw [List.length_append, timesL_len, HONE.out.1, HO.out]
                        have HL2 := Lib.hid hlen2; clear hlen2
                        clear k0 k1 k2 k3
                        go_wp2_with fail
                        go_roundg (go - 1)
                        case measure => have := HGO.out; have := hin.out.2.1; omega
                        case rel =>
                          refine ⟨out ++ timesL j one, B2, d2, ⟨r, f, b, a⟩, p5, by first | rfl | rw [List.length_append], by rw [HL2.out]; exact hON, by rw [HL2.out]; have := HGO.out; have := hin.out.2.1; omega, ⟨f9, by rw [HL2.out]; omega, HR9.out⟩, HRA.out.2.1, hq.out.2.2.1, hq.out.2.2.2.2.2.1, hq.out.2.1, fun x hx => ?_, hq.out.2.2.2.1, Blk.lt hq.out.2.2.2.2.2.1, fun e => ?_⟩
                          · rcases List.mem_append.1 hx with hx | hx
                            · exact hin.out.2.2.2.2.2.2.2.1 x hx
                            · have hx1 := timesL_mem hx
                              rw [HONE.out.2] at hx1
                              have hco := HRA.out.2.2
                              simp only [List.mem_cons, List.not_mem_nil, or_false] at hx1
                              rcases hx1 with hx1 | hx1
                              · rw [hx1]; exact hco
                              · rw [hx1]; exact Cel.ok_tail hco
                          · rw [HL2.out] at e; omega
                · have hO1 : decide ((0 : Int) < (O : Int)) = true := by simp; omega
                  have hO2 : decide (0 < O) = true := by simp; omega
                  have u0 : wB.cell? ⟨Q, 0, none⟩ = some (.int .i32 ah.r) := Blk.cell (Blk.ext HR8.out.1 HX.out) 0
                  have u1 : wB.cell? ⟨Q, 1, none⟩ = some (.int .u8 ah.f) := Blk.cell (Blk.ext HR8.out.1 HX.out) 1
                  have u2 : wB.cell? ⟨Q, 2, none⟩ = some (.int .u8 ah.b) := Blk.cell (Blk.ext HR8.out.1 HX.out) 2
                  have u3 : wB.cell? ⟨Q, 3, none⟩ = some (.int .u8 ah.a) := Blk.cell (Blk.ext HR8.out.1 HX.out) 3
                  generalize hE : celEq ⟨r, f, b, a⟩ ⟨ah.r, ah.f, ah.b, ah.a⟩ = E
                  cases E with
                  | true =>
                    have hR9 := HBAD.out.1 (by unfold badRun; rw [decide_eq_true (celEq_true.1 hE)]; simp)
                    have HR9 := Lib.hid hR9; clear hR9
                    go_wp2_with fail
                    refine (RefFail_ok wB g s p5 10 (Blk.ext H8.out.1 HX.out)).mono ?_
                    rintro e wC ⟨rfl, hB, xB⟩
                    go_wp2_with fail
                    go_ret
                    exact ⟨_, rfl, by rw [HR9.out]; exact isCells_none _, by rw [HR9.out]; exact hB, (HR8.out.2.2.ext HX.out).trans xB⟩
                  | false =>
                    have hNE := Lib.hid (decide_eq_false (celEq_false.1 hE))
                    by_cases hG : (N : Int) < (O : Int) + (k + 1) * 2
                    · have hR9 := HBAD.out.1 (by unfold badRun; rw [HCH.out, hT.out, hNE.out, hST.out, HO.out, decide_eq_true (show (N : Int) < (O : Int) + (k + 1) * ((2 : Nat) : Int) by omega)]; rfl)
                      have HR9 := Lib.hid hR9; clear hR9
                      go_wp2_with fail
                      refine (RefFail_ok wB g s p5 10 (Blk.ext H8.out.1 HX.out)).mono ?_
                      rintro e wC ⟨rfl, hB, xB⟩
                      go_wp2_with fail
                      go_ret
                      exact ⟨_, rfl, by rw [HR9.out]; exact isCells_none _, by rw [HR9.out]; exact hB, (HR8.out.2.2.ext HX.out).trans xB⟩
                    · have hG0 : (O : Int) + (k + 1) * 2 ≤ N := by omega
                      obtain ⟨kn, hkn⟩ : ∃ kn : Nat, k = (kn : Int) - 1 := ⟨(k + 1).toNat, by omega⟩
                      have hkb : 1 ≤ kn ∧ kn ≤ 4096 := by omega
                      have hON : O + kn * 2 ≤ N := by omega
                      have hnb : badRun N out ah k ⟨r, f, b, a⟩ = false := by
                        unfold badRun
                        rw [HCH.out, hT.out, hNE.out, hST.out, HO.out, decide_eq_false (show ¬ (N : Int) < (O : Int) + (k + 1) * ((2 : Nat) : Int) by omega)]; rfl
                      have hnx : ∃ f1, N ≤ O + (f1 + 1) ∧ readGo s N f1 (out ++ timesL kn (bothL ⟨r, f, b, a⟩)) ⟨r, f, b, a⟩ p5 = R := by
                        obtain ⟨fu, hfu, hRR⟩ := hin.out.2.2.1
                        cases fu with
                        | zero => omega
                        | succ f1 =>
                          refine ⟨f1, hfu, ?_⟩
                          have h1 := readGo_step s N f1 out ah p (by rw [HO.out]; exact hlt) (by rw [HRA.out.1]) (by rw [HRA.out.1]; exact hnb)
                          rw [HRA.out.1] at h1
                          simp only at h1
                          rw [show (k + 1).toNat = kn by omega] at h1
                          rw [← h1]; exact hRR
                      have HNX := Lib.hid (And.intro hnx (And.intro hON hkb)); clear hnb hnx
                      have v0 : wB.cell? ⟨Q, 0, none⟩ = some (.int .i32 ah.r) := Blk.cell (Blk.ext HR8.out.1 HX.out) 0
                      have v1 : wB.cell? ⟨Q, 1, none⟩ = some (.int .u8 ah.f) := Blk.cell (Blk.ext HR8.out.1 HX.out) 1
                      have v2 : wB.cell? ⟨Q, 2, none⟩ = some (.int .u8 ah.b) := Blk.cell (Blk.ext HR8.out.1 HX.out) 2
                      have v3 : wB.cell? ⟨Q, 3, none⟩ = some (.int .u8 ah.a) := Blk.cell (Blk.ext HR8.out.1 HX.out) 3
                      have f0 := Blk.frozen (Blk.ext HR8.out.1 HX.out) 0
                      have f1 := Blk.frozen (Blk.ext HR8.out.1 HX.out) 1
                      have f2 := Blk.frozen (Blk.ext HR8.out.1 HX.out) 2
                      have f3 := Blk.frozen (Blk.ext HR8.out.1 HX.out) 3
                      have hbs := (((Blk.set_ (Blk.ext HR8.out.1 HX.out) 0 (.int .i32 r)).set_ 1 (.int .u8 f)).set_ 2 (.int .u8 b)).set_ 3 (.int .u8 a)
                      have hrs := Blk.apart (i := 3) (v := .int .u8 a) (Blk.apart (i := 2) (v := .int .u8 b) (Blk.apart (i := 1) (v := .int .u8 f) (Blk.apart (i := 0) (v := .int .i32 r) (Blk.ext H8.out.1 HX.out) hgQ.symm) hgQ.symm) hgQ.symm) hgQ.symm
                      have hCQ : Cb ≠ Q := by have := H5.out.2.2.2.2.1; have := H5.out.2.2.2.2.2; omega
                      have hcs := Blk.apart (i := 3) (v := .int .u8 a) (Blk.apart (i := 2) (v := .int .u8 b) (Blk.apart (i := 1) (v := .int .u8 f) (Blk.apart (i := 0) (v := .int .i32 r) (Blk.ext H8.out.2.1 HX.out) hCQ) hCQ) hCQ) hCQ
                      have hWQ : W.heap.size ≤ Q := by rw [H1.out.2.2.2.2]; exact Nat.le_refl _
                      have hos := ((((HR8.out.2.2.ext HX.out).fresh (i := 0) hWQ (.int .i32 r)).fresh (i := 1) hWQ (.int .u8 f)).fresh (i := 2) hWQ (.int .u8 b)).fresh (i := 3) hWQ (.int .u8 a)
                      have how := own_kept4 (HR8.out.2.1.ext HX.out) (w' := (((wB.setCell ⟨Q, 0, none⟩ (.int .i32 r)).setCell ⟨Q, 1, none⟩ (.int .u8 f)).setCell ⟨Q, 2, none⟩ (.int .u8 b)).setCell ⟨Q, 3, none⟩ (.int .u8 a)) (fun g' hg' _ => by
                        rw [Below.heap_setCell _ _ _ _ (show g' ≠ Q by omega), Below.heap_setCell _ _ _ _ (show g' ≠ Q by omega), Below.heap_setCell _ _ _ _ (show g' ≠ Q by omega), Below.heap_setCell _ _ _ _ (show g' ≠ Q by omega)])
                      have HE := Lib.hid (And.intro hbs (And.intro hrs (And.intro hcs (And.intro hos (And.intro how hCQ))))); clear hbs hrs hcs hos how hWQ hCQ
                      have hbl : (bothL ⟨r, f, b, a⟩).length = 2 := by rw [bothL_len]; exact hST.out
                      have hbe : bothL ⟨r, f, b, a⟩ = [⟨r, f, b, a⟩, Cel.tail ⟨r, f, b, a⟩] := by unfold bothL; rw [HWD.out]; rfl
                      generalize hON1 : bothL ⟨r, f, b, a⟩ = one at hbl hbe HNX
                      have HONE := Lib.hid (And.intro hbl hbe); clear hON1 hbl hbe
                      have HG := Lib.hid (And.intro hG hG0); clear hG
                      rw [hkn] at hG0 ⊢
                      have HKN := Lib.hid hkn; clear hkn
                      obtain ⟨go, hgo⟩ : ∃ go, go = gk := ⟨_, rfl⟩
                      have HGO := Lib.hid hgo; clear hgo
                      go_wp2_with fail
                      clear v0 v1 v2 v3 f0 f1 f2 f3 k0 k1 k2 k3
                      have hst0 := HE.out.2.2.2.2.1
                      generalize (((wB.setCell ⟨Q, 0, none⟩ (.int .i32 r)).setCell ⟨Q, 1, none⟩ (.int .u8 f)).setCell ⟨Q, 2, none⟩ (.int .u8 b)).setCell ⟨Q, 3, none⟩ (.int .u8 a) = wD at HE hst0 ⊢
                      have hst0 : OwnC wD (Q + 1) (.slice B O d) out := hst0
                      rw [show (Value.slice B O d) = .slice B (out ++ timesL 0 one).length d by rw [timesL_zero, List.append_nil, HO.out]] at hst0
                      go_loopg [5, 12] kn (fun t u z wq => ∃ (j : Nat) (B2 : Option Addr) (d2 : Nat), z = .int .i64 j ∧ u = .slice B2 (out ++ timesL j one).length d2 ∧ Hid (j + t = kn ∧ OwnC wq (Q + 1) (.slice B2 (out ++ timesL j one).length d2) (out ++ timesL j one) ∧ RefAt wq g s p5 0 ∧ Only g W wq ∧ Blk wq Cb 57 #[.int .i32 r, .int .u8 f, .int .u8 b, .int .u8 a] ∧ Blk wq Q 57 #[.int .i32 r, .int .u8 f, .int .u8 b, .int .u8 a] ∧ (∀ k, (Value.slice B2 (out ++ timesL j one).length d2).ownBlock = some k → k ≠ Cb)))
                      case atStart =>
                        refine ⟨0, B, d, rfl, by rw [timesL_zero, List.append_nil, HO.out], Nat.zero_add _, by rw [timesL_zero, List.append_nil] at hst0 ⊢; exact hst0, HE.out.2.1, HE.out.2.2.2.1, HE.out.2.2.1, HE.out.1, fun k hk => ?_⟩
                        have h1 := HLT.out k (by cases B <;> exact hk)
                        have h2 := H5.out.2.2.2.2.1
                        omega
                      case round =>
                        obtain ⟨j, B2, d2, rfl, rfl, hq⟩ := hrel
                        have hlen : (out ++ timesL j one).length ≤ 1000000 := by rw [List.length_append, timesL_len, HONE.out.1, HO.out]; have := hq.out.1; omega
                        have k0 : wr.cell? ⟨Cb, 0, none⟩ = some (.int .i32 r) := Blk.cell hq.out.2.2.2.2.1 0
                        have k1 : wr.cell? ⟨Cb, 1, none⟩ = some (.int .u8 f) := Blk.cell hq.out.2.2.2.2.1 1
                        have k2 : wr.cell? ⟨Cb, 2, none⟩ = some (.int .u8 b) := Blk.cell hq.out.2.2.2.2.1 2
                        have k3 : wr.cell? ⟨Cb, 3, none⟩ = some (.int .u8 a) := Blk.cell hq.out.2.2.2.2.1 3
                        by_cases hj : j < kn
                        · generalize hDD : out ++ timesL j one = D at hq hlen ⊢
                          have HDD := Lib.hid hDD; clear hDD
                          generalize hDN : D.length = DN at hq hlen ⊢
                          have HDN := Lib.hid hDN; clear hDN
                          have hjk : (j : Int) ≤ (kn : Int) - 1 := by omega
                          have hQs : Q + 1 ≤ wr.heap.size := Blk.lt hq.out.2.2.2.2.2.1
                          go_wp2_with (at_builtin; refine wpList_app_cells_at rfl _ _ rfl (Q + 1) (.slice B2 DN d2) D rfl (hq.out.2.1.ext ((Ext.refl wr).alloc (.cells #[.int .i32 r, .int .u8 f, .int .u8 b, .int .u8 a] 57))) wr.heap.size 0 1 1 [⟨r, f, b, a⟩] rfl (cells_one wr ⟨r, f, b, a⟩ HRA.out.2.2) (by rw [HDN.out]; omega) (by simp) (by simp; omega) ?_)
                          intro v' w12 hown12 hgr hnew
                          have hlt2 := fun k hk => World.ownsRow.lt hq.out.2.1 k hk
                          obtain ⟨A3, c3, rfl, _⟩ := hown12.form
                          have hne2 := hq.out.2.2.2.2.2.2
                          have hcl := Blk.lt hq.out.2.2.2.2.1
                          have hWQ := H1.out.2.2.2.2
                          have hgW := H.out.2.2.2
                          have hal := (Ext.refl wr).alloc (.cells #[.int .i32 r, .int .u8 f, .int .u8 b, .int .u8 a] 57)
                          have hsz : (wr.alloc (.cells #[.int .i32 r, .int .u8 f, .int .u8 b, .int .u8 a] 57)).heap.size = wr.heap.size + 1 := by simp
                          have H12 : Hid (OwnC w12 (Q + 1) (.slice A3 (D ++ [(⟨r, f, b, a⟩ : Cel)]).length c3) (D ++ [⟨r, f, b, a⟩]) ∧ RefAt w12 g s p5 0 ∧ Only g W w12 ∧ Blk w12 Cb 57 #[.int .i32 r, .int .u8 f, .int .u8 b, .int .u8 a] ∧ Blk w12 Q 57 #[.int .i32 r, .int .u8 f, .int .u8 b, .int .u8 a] ∧ (∀ k, (Value.slice A3 (D ++ [(⟨r, f, b, a⟩ : Cel)]).length c3).ownBlock = some k → k ≠ Cb)) := by
                            refine Lib.hid ⟨hown12, Blk.grown (Blk.ext hq.out.2.2.1 hal) hgr (fun e => ?_), Only.grown (hq.out.2.2.2.1.ext hal) hgr (fun k hk => ?_), Blk.grown (Blk.ext hq.out.2.2.2.2.1 hal) hgr (fun e => hne2 _ e rfl), Blk.grown (Blk.ext hq.out.2.2.2.2.2.1 hal) hgr (fun e => ?_), fun k hk => ?_⟩
                            · have := (hlt2 _ e).1; omega
                            · have := (hlt2 _ hk).1; omega
                            · have := (hlt2 _ e).1; omega
                            · rcases hnew with h | h
                              · rw [h] at hk; exact hne2 k hk
                              · rw [h] at hk
                                rw [← Option.some.inj hk]
                                omega
                          clear hown12 hgr hnew hlt2 hne2 hsz hal k0 k1 k2 k3
                          have k0 : w12.cell? ⟨Cb, 0, none⟩ = some (.int .i32 r) := Blk.cell H12.out.2.2.2.1 0
                          have k1 : w12.cell? ⟨Cb, 1, none⟩ = some (.int .u8 f) := Blk.cell H12.out.2.2.2.1 1
                          have k2 : w12.cell? ⟨Cb, 2, none⟩ = some (.int .u8 b) := Blk.cell H12.out.2.2.2.1 2
                          have k3 : w12.cell? ⟨Cb, 3, none⟩ = some (.int .u8 a) := Blk.cell H12.out.2.2.2.1 3
                          generalize hEE : D ++ [⟨r, f, b, a⟩] = EE at H12 ⊢
                          have HEE := Lib.hid hEE; clear hEE
                          generalize hEN : EE.length = EN at H12 ⊢
                          have HEN := Lib.hid hEN; clear hEN
                          go_wp2_with fail
                          refine (RefTail_of ⟨r, f, b, a⟩ _ HRA.out.2.2).mono ?_
                          rintro e w13 ⟨rfl, x13⟩
                          have hlt2 := fun k hk => World.ownsRow.lt (H12.out.1.ext x13) k hk
                          have H13 : Hid (OwnC w13 (Q + 1) (.slice A3 EN c3) EE ∧ RefAt w13 g s p5 0 ∧ Only g W w13 ∧ Blk w13 Cb 57 #[.int .i32 r, .int .u8 f, .int .u8 b, .int .u8 a] ∧ Blk w13 Q 57 #[.int .i32 r, .int .u8 f, .int .u8 b, .int .u8 a] ∧ (∀ k, (Value.slice A3 EN c3).ownBlock = some k → k ≠ Cb)) :=
                            Lib.hid ⟨H12.out.1.ext x13, Blk.ext H12.out.2.1 x13, H12.out.2.2.1.ext x13, Blk.ext H12.out.2.2.2.1 x13, Blk.ext H12.out.2.2.2.2.1 x13, H12.out.2.2.2.2.2⟩
                          clear x13 k0 k1 k2 k3 hlt2
                          have hQs3 : Q + 1 ≤ w13.heap.size := Blk.lt H13.out.2.2.2.2.1
                          unfold Cel.tail Cel.val
                          simp only
                          have hen : EN ≤ 1500000 := by have h1 := HEN.out; rw [← HEE.out, List.length_append, HDN.out] at h1; simp at h1; omega
                          go_wp2_with (at_builtin; refine wpList_app_cells_at rfl _ _ rfl (Q + 1) (.slice A3 EN c3) EE rfl (H13.out.1.ext ((Ext.refl w13).alloc (.cells #[.int .i32 0, .int .u8 f, .int .u8 b, .int .u8 (a % 64 + 128)] 57))) w13.heap.size 0 1 1 [Cel.tail ⟨r, f, b, a⟩] rfl (cells_one w13 (Cel.tail ⟨r, f, b, a⟩) (Cel.ok_tail HRA.out.2.2)) (by rw [HEN.out]; omega) (by simp) (by simp; omega) ?_)
                          intro v' w14 hown14 hgr hnew
                          have hlt2 := fun k hk => World.ownsRow.lt H13.out.1 k hk
                          obtain ⟨A4, c4, rfl, _⟩ := hown14.form
                          have hne2 := H13.out.2.2.2.2.2
                          have hcl := Blk.lt H13.out.2.2.2.1
                          have hal := (Ext.refl w13).alloc (.cells #[.int .i32 0, .int .u8 f, .int .u8 b, .int .u8 (a % 64 + 128)] 57)
                          have hsz : (w13.alloc (.cells #[.int .i32 0, .int .u8 f, .int .u8 b, .int .u8 (a % 64 + 128)] 57)).heap.size = w13.heap.size + 1 := by simp
                          have e14 : EE ++ [Cel.tail ⟨r, f, b, a⟩] = out ++ timesL (j + 1) one := by rw [timesL_succ, ← List.append_assoc, HDD.out, HONE.out.2, ← HEE.out, List.append_assoc]; rfl
                          rw [e14] at hown14 hnew ⊢
                          have H14 : Hid (OwnC w14 (Q + 1) (.slice A4 (out ++ timesL (j + 1) one).length c4) (out ++ timesL (j + 1) one) ∧ RefAt w14 g s p5 0 ∧ Only g W w14 ∧ Blk w14 Cb 57 #[.int .i32 r, .int .u8 f, .int .u8 b, .int .u8 a] ∧ Blk w14 Q 57 #[.int .i32 r, .int .u8 f, .int .u8 b, .int .u8 a] ∧ (∀ k, (Value.slice A4 (out ++ timesL (j + 1) one).length c4).ownBlock = some k → k ≠ Cb)) := by
                            refine Lib.hid ⟨hown14, Blk.grown (Blk.ext H13.out.2.1 hal) hgr (fun e => ?_), Only.grown (H13.out.2.2.1.ext hal) hgr (fun k hk => ?_), Blk.grown (Blk.ext H13.out.2.2.2.1 hal) hgr (fun e => hne2 _ e rfl), Blk.grown (Blk.ext H13.out.2.2.2.2.1 hal) hgr (fun e => ?_), fun k hk => ?_⟩
                            · have := (hlt2 _ e).1; omega
                            · have := (hlt2 _ hk).1; omega
                            · have := (hlt2 _ e).1; omega
                            · rcases hnew with h | h
                              · rw [h] at hk; exact hne2 k hk
                              · rw [h] at hk
                                rw [← Option.some.inj hk]
                                omega
                          clear hown14 hgr hnew hlt2 hne2 hsz hal e14
                          have hgk := hq.out.1
                          go_wp2
                          go_roundg (gk - 1)
                          case measure => omega
                          case rel => exact ⟨j + 1, A4, c4, by go_num, rfl, by show j + 1 + (gk - 1) = kn; omega, H14.out⟩
                        · have hjk : j = kn := by have := hq.out.1; omega
                          subst hjk
                          have hjn : ¬ (j : Int) ≤ (j : Int) - 1 := by omega
                          obtain ⟨⟨f9, hf9, hR9⟩, hON, hkb⟩ := HNX.out
                          have HR9 := Lib.hid hR9; clear hR9
                          have hlen2 : (out ++ timesL j one).length = O + j * 2 := by rw [List.length_append, timesL_len, HONE.out.1, HO.out]
                          have HL2 := Lib.hid hlen2; clear hlen2
                          clear k0 k1 k2 k3
                          go_wp2_with fail
                          go_roundg (go - 1)
                          case measure => have := HGO.out; have := hin.out.2.1; omega
                          case rel =>
                            refine ⟨out ++ timesL j one, B2, d2, ⟨r, f, b, a⟩, p5, by first | rfl | rw [List.length_append], by rw [HL2.out]; exact hON, by rw [HL2.out]; have := HGO.out; have := hin.out.2.1; omega, ⟨f9, by rw [HL2.out]; omega, HR9.out⟩, HRA.out.2.1, hq.out.2.2.1, hq.out.2.2.2.2.2.1, hq.out.2.1, fun x hx => ?_, hq.out.2.2.2.1, Blk.lt hq.out.2.2.2.2.2.1, fun e => ?_⟩
                            · rcases List.mem_append.1 hx with hx | hx
                              · exact hin.out.2.2.2.2.2.2.2.1 x hx
                              · have hx1 := timesL_mem hx
                                rw [HONE.out.2] at hx1
                                have hco := HRA.out.2.2
                                simp only [List.mem_cons, List.not_mem_nil, or_false] at hx1
                                rcases hx1 with hx1 | hx1
                                · rw [hx1]; exact hco
                                · rw [hx1]; exact Cel.ok_tail hco
                            · rw [HL2.out] at e; omega
            | false =>
              have hst : Cel.step ⟨r, f, b, a⟩ = 1 := by unfold Cel.step; rw [HWD.out]; rfl
              have hST := Lib.hid hst; clear hst
              go_wp2_with fail
              refine (RefTl_of ⟨r, f, b, a⟩ _ HRA.out.2.2).mono ?_
              rintro e wB ⟨rfl, x9⟩
              have h9 := HX.out.trans x9
              clear HX x9 k0 k1 k2 k3 HFL
              have HX := Lib.hid h9; clear h9
              have k0 : wB.cell? ⟨Cb, 0, none⟩ = some (.int .i32 r) := Blk.cell (Blk.ext H8.out.2.1 HX.out) 0
              have k1 : wB.cell? ⟨Cb, 1, none⟩ = some (.int .u8 f) := Blk.cell (Blk.ext H8.out.2.1 HX.out) 1
              have k2 : wB.cell? ⟨Cb, 2, none⟩ = some (.int .u8 b) := Blk.cell (Blk.ext H8.out.2.1 HX.out) 2
              have k3 : wB.cell? ⟨Cb, 3, none⟩ = some (.int .u8 a) := Blk.cell (Blk.ext H8.out.2.1 HX.out) 3
              generalize hTT : Cel.tl ⟨r, f, b, a⟩ = T
              have hT := Lib.hid hTT; clear hTT
              cases T with
              | true =>
                have hR9 := HBAD.out.1 (by unfold badRun; rw [HCH.out, hT.out]; rfl)
                have HR9 := Lib.hid hR9; clear hR9
                go_wp2_with fail
                refine (RefFail_ok wB g s p5 10 (Blk.ext H8.out.1 HX.out)).mono ?_
                rintro e wC ⟨rfl, hB, xB⟩
                go_wp2_with fail
                go_ret
                exact ⟨_, rfl, by rw [HR9.out]; exact isCells_none _, by rw [HR9.out]; exact hB, (HR8.out.2.2.ext HX.out).trans xB⟩
              | false =>
                by_cases hO0 : O = 0
                · have hz := hin.out.2.2.2.2.2.2.2.2.2.2 hO0
                  have hO1 : decide ((0 : Int) < (O : Int)) = false := by simp [hO0]
                  have hO2 : decide (0 < O) = false := by simp [hO0]
                  have HO0 := Lib.hid hO0; clear hO0
                  have hne : decide ((⟨r, f, b, a⟩ : Cel) = ah) = false := decide_eq_false fun e => by
                    have h1 := HCH.out
                    rw [e, hz] at h1
                    rw [zero_check] at h1
                    cases h1
                  have hNE := Lib.hid hne; clear hne hz
                  by_cases hG : (N : Int) < (O : Int) + (k + 1) * 1
                  · have hR9 := HBAD.out.1 (by unfold badRun; rw [HCH.out, hT.out, hNE.out, hST.out, HO.out, decide_eq_true (show (N : Int) < (O : Int) + (k + 1) * ((1 : Nat) : Int) by omega)]; rfl)
                    have HR9 := Lib.hid hR9; clear hR9
                    go_wp2_with fail
                    refine (RefFail_ok wB g s p5 10 (Blk.ext H8.out.1 HX.out)).mono ?_
                    rintro e wC ⟨rfl, hB, xB⟩
                    go_wp2_with fail
                    go_ret
                    exact ⟨_, rfl, by rw [HR9.out]; exact isCells_none _, by rw [HR9.out]; exact hB, (HR8.out.2.2.ext HX.out).trans xB⟩
                  · have hG0 : (O : Int) + (k + 1) * 1 ≤ N := by omega
                    obtain ⟨kn, hkn⟩ : ∃ kn : Nat, k = (kn : Int) - 1 := ⟨(k + 1).toNat, by omega⟩
                    have hkb : 1 ≤ kn ∧ kn ≤ 4096 := by omega
                    have hON : O + kn * 1 ≤ N := by omega
                    have hnb : badRun N out ah k ⟨r, f, b, a⟩ = false := by
                      unfold badRun
                      rw [HCH.out, hT.out, hNE.out, hST.out, HO.out, decide_eq_false (show ¬ (N : Int) < (O : Int) + (k + 1) * ((1 : Nat) : Int) by omega)]; rfl
                    have hnx : ∃ f1, N ≤ O + (f1 + 1) ∧ readGo s N f1 (out ++ timesL kn (bothL ⟨r, f, b, a⟩)) ⟨r, f, b, a⟩ p5 = R := by
                      obtain ⟨fu, hfu, hRR⟩ := hin.out.2.2.1
                      cases fu with
                      | zero => omega
                      | succ f1 =>
                        refine ⟨f1, hfu, ?_⟩
                        have h1 := readGo_step s N f1 out ah p (by rw [HO.out]; exact hlt) (by rw [HRA.out.1]) (by rw [HRA.out.1]; exact hnb)
                        rw [HRA.out.1] at h1
                        simp only at h1
                        rw [show (k + 1).toNat = kn by omega] at h1
                        rw [← h1]; exact hRR
                    have HNX := Lib.hid (And.intro hnx (And.intro hON hkb)); clear hnb hnx
                    have v0 : wB.cell? ⟨Q, 0, none⟩ = some (.int .i32 ah.r) := Blk.cell (Blk.ext HR8.out.1 HX.out) 0
                    have v1 : wB.cell? ⟨Q, 1, none⟩ = some (.int .u8 ah.f) := Blk.cell (Blk.ext HR8.out.1 HX.out) 1
                    have v2 : wB.cell? ⟨Q, 2, none⟩ = some (.int .u8 ah.b) := Blk.cell (Blk.ext HR8.out.1 HX.out) 2
                    have v3 : wB.cell? ⟨Q, 3, none⟩ = some (.int .u8 ah.a) := Blk.cell (Blk.ext HR8.out.1 HX.out) 3
                    have f0 := Blk.frozen (Blk.ext HR8.out.1 HX.out) 0
                    have f1 := Blk.frozen (Blk.ext HR8.out.1 HX.out) 1
                    have f2 := Blk.frozen (Blk.ext HR8.out.1 HX.out) 2
                    have f3 := Blk.frozen (Blk.ext HR8.out.1 HX.out) 3
                    have hbs := (((Blk.set_ (Blk.ext HR8.out.1 HX.out) 0 (.int .i32 r)).set_ 1 (.int .u8 f)).set_ 2 (.int .u8 b)).set_ 3 (.int .u8 a)
                    have hrs := Blk.apart (i := 3) (v := .int .u8 a) (Blk.apart (i := 2) (v := .int .u8 b) (Blk.apart (i := 1) (v := .int .u8 f) (Blk.apart (i := 0) (v := .int .i32 r) (Blk.ext H8.out.1 HX.out) hgQ.symm) hgQ.symm) hgQ.symm) hgQ.symm
                    have hCQ : Cb ≠ Q := by have := H5.out.2.2.2.2.1; have := H5.out.2.2.2.2.2; omega
                    have hcs := Blk.apart (i := 3) (v := .int .u8 a) (Blk.apart (i := 2) (v := .int .u8 b) (Blk.apart (i := 1) (v := .int .u8 f) (Blk.apart (i := 0) (v := .int .i32 r) (Blk.ext H8.out.2.1 HX.out) hCQ) hCQ) hCQ) hCQ
                    have hWQ : W.heap.size ≤ Q := by rw [H1.out.2.2.2.2]; exact Nat.le_refl _
                    have hos := ((((HR8.out.2.2.ext HX.out).fresh (i := 0) hWQ (.int .i32 r)).fresh (i := 1) hWQ (.int .u8 f)).fresh (i := 2) hWQ (.int .u8 b)).fresh (i := 3) hWQ (.int .u8 a)
                    have how := own_kept4 (HR8.out.2.1.ext HX.out) (w' := (((wB.setCell ⟨Q, 0, none⟩ (.int .i32 r)).setCell ⟨Q, 1, none⟩ (.int .u8 f)).setCell ⟨Q, 2, none⟩ (.int .u8 b)).setCell ⟨Q, 3, none⟩ (.int .u8 a)) (fun g' hg' _ => by
                      rw [Below.heap_setCell _ _ _ _ (show g' ≠ Q by omega), Below.heap_setCell _ _ _ _ (show g' ≠ Q by omega), Below.heap_setCell _ _ _ _ (show g' ≠ Q by omega), Below.heap_setCell _ _ _ _ (show g' ≠ Q by omega)])
                    have HE := Lib.hid (And.intro hbs (And.intro hrs (And.intro hcs (And.intro hos (And.intro how hCQ))))); clear hbs hrs hcs hos how hWQ hCQ
                    have hbl : (bothL ⟨r, f, b, a⟩).length = 1 := by rw [bothL_len]; exact hST.out
                    have hbe : bothL ⟨r, f, b, a⟩ = [⟨r, f, b, a⟩] := by unfold bothL; rw [HWD.out]; rfl
                    generalize hON1 : bothL ⟨r, f, b, a⟩ = one at hbl hbe HNX
                    have HONE := Lib.hid (And.intro hbl hbe); clear hON1 hbl hbe
                    have HG := Lib.hid (And.intro hG hG0); clear hG
                    rw [hkn] at hG0 ⊢
                    have HKN := Lib.hid hkn; clear hkn
                    obtain ⟨go, hgo⟩ : ∃ go, go = gk := ⟨_, rfl⟩
                    have HGO := Lib.hid hgo; clear hgo
                    go_wp2_with fail
                    clear v0 v1 v2 v3 f0 f1 f2 f3 k0 k1 k2 k3
                    have hst0 := HE.out.2.2.2.2.1
                    generalize (((wB.setCell ⟨Q, 0, none⟩ (.int .i32 r)).setCell ⟨Q, 1, none⟩ (.int .u8 f)).setCell ⟨Q, 2, none⟩ (.int .u8 b)).setCell ⟨Q, 3, none⟩ (.int .u8 a) = wD at HE hst0 ⊢
                    have hst0 : OwnC wD (Q + 1) (.slice B O d) out := hst0
                    rw [show (Value.slice B O d) = .slice B (out ++ timesL 0 one).length d by rw [timesL_zero, List.append_nil, HO.out]] at hst0
                    go_loopg [5, 12] kn (fun t u z wq => ∃ (j : Nat) (B2 : Option Addr) (d2 : Nat), z = .int .i64 j ∧ u = .slice B2 (out ++ timesL j one).length d2 ∧ Hid (j + t = kn ∧ OwnC wq (Q + 1) (.slice B2 (out ++ timesL j one).length d2) (out ++ timesL j one) ∧ RefAt wq g s p5 0 ∧ Only g W wq ∧ Blk wq Cb 57 #[.int .i32 r, .int .u8 f, .int .u8 b, .int .u8 a] ∧ Blk wq Q 57 #[.int .i32 r, .int .u8 f, .int .u8 b, .int .u8 a] ∧ (∀ k, (Value.slice B2 (out ++ timesL j one).length d2).ownBlock = some k → k ≠ Cb)))
                    case atStart =>
                      refine ⟨0, B, d, rfl, by rw [timesL_zero, List.append_nil, HO.out], Nat.zero_add _, by rw [timesL_zero, List.append_nil] at hst0 ⊢; exact hst0, HE.out.2.1, HE.out.2.2.2.1, HE.out.2.2.1, HE.out.1, fun k hk => ?_⟩
                      have h1 := HLT.out k (by cases B <;> exact hk)
                      have h2 := H5.out.2.2.2.2.1
                      omega
                    case round =>
                      obtain ⟨j, B2, d2, rfl, rfl, hq⟩ := hrel
                      have hlen : (out ++ timesL j one).length ≤ 1000000 := by rw [List.length_append, timesL_len, HONE.out.1, HO.out]; have := hq.out.1; omega
                      have k0 : wr.cell? ⟨Cb, 0, none⟩ = some (.int .i32 r) := Blk.cell hq.out.2.2.2.2.1 0
                      have k1 : wr.cell? ⟨Cb, 1, none⟩ = some (.int .u8 f) := Blk.cell hq.out.2.2.2.2.1 1
                      have k2 : wr.cell? ⟨Cb, 2, none⟩ = some (.int .u8 b) := Blk.cell hq.out.2.2.2.2.1 2
                      have k3 : wr.cell? ⟨Cb, 3, none⟩ = some (.int .u8 a) := Blk.cell hq.out.2.2.2.2.1 3
                      by_cases hj : j < kn
                      · generalize hDD : out ++ timesL j one = D at hq hlen ⊢
                        have HDD := Lib.hid hDD; clear hDD
                        generalize hDN : D.length = DN at hq hlen ⊢
                        have HDN := Lib.hid hDN; clear hDN
                        have hjk : (j : Int) ≤ (kn : Int) - 1 := by omega
                        have hQs : Q + 1 ≤ wr.heap.size := Blk.lt hq.out.2.2.2.2.2.1
                        go_wp2_with (at_builtin; refine wpList_app_cells_at rfl _ _ rfl (Q + 1) (.slice B2 DN d2) D rfl (hq.out.2.1.ext ((Ext.refl wr).alloc (.cells #[.int .i32 r, .int .u8 f, .int .u8 b, .int .u8 a] 57))) wr.heap.size 0 1 1 [⟨r, f, b, a⟩] rfl (cells_one wr ⟨r, f, b, a⟩ HRA.out.2.2) (by rw [HDN.out]; omega) (by simp) (by simp; omega) ?_)
                        intro v' w12 hown12 hgr hnew
                        have hlt2 := fun k hk => World.ownsRow.lt hq.out.2.1 k hk
                        obtain ⟨A3, c3, rfl, _⟩ := hown12.form
                        have hne2 := hq.out.2.2.2.2.2.2
                        have hcl := Blk.lt hq.out.2.2.2.2.1
                        have hWQ := H1.out.2.2.2.2
                        have hgW := H.out.2.2.2
                        have hal := (Ext.refl wr).alloc (.cells #[.int .i32 r, .int .u8 f, .int .u8 b, .int .u8 a] 57)
                        have hsz : (wr.alloc (.cells #[.int .i32 r, .int .u8 f, .int .u8 b, .int .u8 a] 57)).heap.size = wr.heap.size + 1 := by simp
                        have H12 : Hid (OwnC w12 (Q + 1) (.slice A3 (D ++ [(⟨r, f, b, a⟩ : Cel)]).length c3) (D ++ [⟨r, f, b, a⟩]) ∧ RefAt w12 g s p5 0 ∧ Only g W w12 ∧ Blk w12 Cb 57 #[.int .i32 r, .int .u8 f, .int .u8 b, .int .u8 a] ∧ Blk w12 Q 57 #[.int .i32 r, .int .u8 f, .int .u8 b, .int .u8 a] ∧ (∀ k, (Value.slice A3 (D ++ [(⟨r, f, b, a⟩ : Cel)]).length c3).ownBlock = some k → k ≠ Cb)) := by
                          refine Lib.hid ⟨hown12, Blk.grown (Blk.ext hq.out.2.2.1 hal) hgr (fun e => ?_), Only.grown (hq.out.2.2.2.1.ext hal) hgr (fun k hk => ?_), Blk.grown (Blk.ext hq.out.2.2.2.2.1 hal) hgr (fun e => hne2 _ e rfl), Blk.grown (Blk.ext hq.out.2.2.2.2.2.1 hal) hgr (fun e => ?_), fun k hk => ?_⟩
                          · have := (hlt2 _ e).1; omega
                          · have := (hlt2 _ hk).1; omega
                          · have := (hlt2 _ e).1; omega
                          · rcases hnew with h | h
                            · rw [h] at hk; exact hne2 k hk
                            · rw [h] at hk
                              rw [← Option.some.inj hk]
                              omega
                        clear hown12 hgr hnew hlt2 hne2 hsz hal k0 k1 k2 k3
                        have e12 : D ++ [⟨r, f, b, a⟩] = out ++ timesL (j + 1) one := by rw [timesL_succ, ← List.append_assoc, HDD.out, HONE.out.2]
                        rw [e12] at H12 ⊢
                        clear e12
                        have hgk := hq.out.1
                        go_wp2
                        go_roundg (gk - 1)
                        case measure => omega
                        case rel => exact ⟨j + 1, A3, c3, by go_num, rfl, by show j + 1 + (gk - 1) = kn; omega, H12.out⟩
                      · have hjk : j = kn := by have := hq.out.1; omega
                        subst hjk
                        have hjn : ¬ (j : Int) ≤ (j : Int) - 1 := by omega
                        obtain ⟨⟨f9, hf9, hR9⟩, hON, hkb⟩ := HNX.out
                        have HR9 := Lib.hid hR9; clear hR9
                        have hlen2 : (out ++ timesL j one).length = O + j * 1 := by rw [List.length_append, timesL_len, HONE.out.1, HO.out]
                        have HL2 := Lib.hid hlen2; clear hlen2
                        clear k0 k1 k2 k3
                        go_wp2_with fail
                        go_roundg (go - 1)
                        case measure => have := HGO.out; have := hin.out.2.1; omega
                        case rel =>
                          refine ⟨out ++ timesL j one, B2, d2, ⟨r, f, b, a⟩, p5, by first | rfl | rw [List.length_append], by rw [HL2.out]; exact hON, by rw [HL2.out]; have := HGO.out; have := hin.out.2.1; omega, ⟨f9, by rw [HL2.out]; omega, HR9.out⟩, HRA.out.2.1, hq.out.2.2.1, hq.out.2.2.2.2.2.1, hq.out.2.1, fun x hx => ?_, hq.out.2.2.2.1, Blk.lt hq.out.2.2.2.2.2.1, fun e => ?_⟩
                          · rcases List.mem_append.1 hx with hx | hx
                            · exact hin.out.2.2.2.2.2.2.2.1 x hx
                            · have hx1 := timesL_mem hx
                              rw [HONE.out.2] at hx1
                              have hco := HRA.out.2.2
                              simp only [List.mem_cons, List.not_mem_nil, or_false] at hx1
                              rw [hx1]; exact hco
                          · rw [HL2.out] at e; omega
                · have hO1 : decide ((0 : Int) < (O : Int)) = true := by simp; omega
                  have hO2 : decide (0 < O) = true := by simp; omega
                  have u0 : wB.cell? ⟨Q, 0, none⟩ = some (.int .i32 ah.r) := Blk.cell (Blk.ext HR8.out.1 HX.out) 0
                  have u1 : wB.cell? ⟨Q, 1, none⟩ = some (.int .u8 ah.f) := Blk.cell (Blk.ext HR8.out.1 HX.out) 1
                  have u2 : wB.cell? ⟨Q, 2, none⟩ = some (.int .u8 ah.b) := Blk.cell (Blk.ext HR8.out.1 HX.out) 2
                  have u3 : wB.cell? ⟨Q, 3, none⟩ = some (.int .u8 ah.a) := Blk.cell (Blk.ext HR8.out.1 HX.out) 3
                  generalize hE : celEq ⟨r, f, b, a⟩ ⟨ah.r, ah.f, ah.b, ah.a⟩ = E
                  cases E with
                  | true =>
                    have hR9 := HBAD.out.1 (by unfold badRun; rw [decide_eq_true (celEq_true.1 hE)]; simp)
                    have HR9 := Lib.hid hR9; clear hR9
                    go_wp2_with fail
                    refine (RefFail_ok wB g s p5 10 (Blk.ext H8.out.1 HX.out)).mono ?_
                    rintro e wC ⟨rfl, hB, xB⟩
                    go_wp2_with fail
                    go_ret
                    exact ⟨_, rfl, by rw [HR9.out]; exact isCells_none _, by rw [HR9.out]; exact hB, (HR8.out.2.2.ext HX.out).trans xB⟩
                  | false =>
                    have hNE := Lib.hid (decide_eq_false (celEq_false.1 hE))
                    by_cases hG : (N : Int) < (O : Int) + (k + 1) * 1
                    · have hR9 := HBAD.out.1 (by unfold badRun; rw [HCH.out, hT.out, hNE.out, hST.out, HO.out, decide_eq_true (show (N : Int) < (O : Int) + (k + 1) * ((1 : Nat) : Int) by omega)]; rfl)
                      have HR9 := Lib.hid hR9; clear hR9
                      go_wp2_with fail
                      refine (RefFail_ok wB g s p5 10 (Blk.ext H8.out.1 HX.out)).mono ?_
                      rintro e wC ⟨rfl, hB, xB⟩
                      go_wp2_with fail
                      go_ret
                      exact ⟨_, rfl, by rw [HR9.out]; exact isCells_none _, by rw [HR9.out]; exact hB, (HR8.out.2.2.ext HX.out).trans xB⟩
                    · have hG0 : (O : Int) + (k + 1) * 1 ≤ N := by omega
                      obtain ⟨kn, hkn⟩ : ∃ kn : Nat, k = (kn : Int) - 1 := ⟨(k + 1).toNat, by omega⟩
                      have hkb : 1 ≤ kn ∧ kn ≤ 4096 := by omega
                      have hON : O + kn * 1 ≤ N := by omega
                      have hnb : badRun N out ah k ⟨r, f, b, a⟩ = false := by
                        unfold badRun
                        rw [HCH.out, hT.out, hNE.out, hST.out, HO.out, decide_eq_false (show ¬ (N : Int) < (O : Int) + (k + 1) * ((1 : Nat) : Int) by omega)]; rfl
                      have hnx : ∃ f1, N ≤ O + (f1 + 1) ∧ readGo s N f1 (out ++ timesL kn (bothL ⟨r, f, b, a⟩)) ⟨r, f, b, a⟩ p5 = R := by
                        obtain ⟨fu, hfu, hRR⟩ := hin.out.2.2.1
                        cases fu with
                        | zero => omega
                        | succ f1 =>
                          refine ⟨f1, hfu, ?_⟩
                          have h1 := readGo_step s N f1 out ah p (by rw [HO.out]; exact hlt) (by rw [HRA.out.1]) (by rw [HRA.out.1]; exact hnb)
                          rw [HRA.out.1] at h1
                          simp only at h1
                          rw [show (k + 1).toNat = kn by omega] at h1
                          rw [← h1]; exact hRR
                      have HNX := Lib.hid (And.intro hnx (And.intro hON hkb)); clear hnb hnx
                      have v0 : wB.cell? ⟨Q, 0, none⟩ = some (.int .i32 ah.r) := Blk.cell (Blk.ext HR8.out.1 HX.out) 0
                      have v1 : wB.cell? ⟨Q, 1, none⟩ = some (.int .u8 ah.f) := Blk.cell (Blk.ext HR8.out.1 HX.out) 1
                      have v2 : wB.cell? ⟨Q, 2, none⟩ = some (.int .u8 ah.b) := Blk.cell (Blk.ext HR8.out.1 HX.out) 2
                      have v3 : wB.cell? ⟨Q, 3, none⟩ = some (.int .u8 ah.a) := Blk.cell (Blk.ext HR8.out.1 HX.out) 3
                      have f0 := Blk.frozen (Blk.ext HR8.out.1 HX.out) 0
                      have f1 := Blk.frozen (Blk.ext HR8.out.1 HX.out) 1
                      have f2 := Blk.frozen (Blk.ext HR8.out.1 HX.out) 2
                      have f3 := Blk.frozen (Blk.ext HR8.out.1 HX.out) 3
                      have hbs := (((Blk.set_ (Blk.ext HR8.out.1 HX.out) 0 (.int .i32 r)).set_ 1 (.int .u8 f)).set_ 2 (.int .u8 b)).set_ 3 (.int .u8 a)
                      have hrs := Blk.apart (i := 3) (v := .int .u8 a) (Blk.apart (i := 2) (v := .int .u8 b) (Blk.apart (i := 1) (v := .int .u8 f) (Blk.apart (i := 0) (v := .int .i32 r) (Blk.ext H8.out.1 HX.out) hgQ.symm) hgQ.symm) hgQ.symm) hgQ.symm
                      have hCQ : Cb ≠ Q := by have := H5.out.2.2.2.2.1; have := H5.out.2.2.2.2.2; omega
                      have hcs := Blk.apart (i := 3) (v := .int .u8 a) (Blk.apart (i := 2) (v := .int .u8 b) (Blk.apart (i := 1) (v := .int .u8 f) (Blk.apart (i := 0) (v := .int .i32 r) (Blk.ext H8.out.2.1 HX.out) hCQ) hCQ) hCQ) hCQ
                      have hWQ : W.heap.size ≤ Q := by rw [H1.out.2.2.2.2]; exact Nat.le_refl _
                      have hos := ((((HR8.out.2.2.ext HX.out).fresh (i := 0) hWQ (.int .i32 r)).fresh (i := 1) hWQ (.int .u8 f)).fresh (i := 2) hWQ (.int .u8 b)).fresh (i := 3) hWQ (.int .u8 a)
                      have how := own_kept4 (HR8.out.2.1.ext HX.out) (w' := (((wB.setCell ⟨Q, 0, none⟩ (.int .i32 r)).setCell ⟨Q, 1, none⟩ (.int .u8 f)).setCell ⟨Q, 2, none⟩ (.int .u8 b)).setCell ⟨Q, 3, none⟩ (.int .u8 a)) (fun g' hg' _ => by
                        rw [Below.heap_setCell _ _ _ _ (show g' ≠ Q by omega), Below.heap_setCell _ _ _ _ (show g' ≠ Q by omega), Below.heap_setCell _ _ _ _ (show g' ≠ Q by omega), Below.heap_setCell _ _ _ _ (show g' ≠ Q by omega)])
                      have HE := Lib.hid (And.intro hbs (And.intro hrs (And.intro hcs (And.intro hos (And.intro how hCQ))))); clear hbs hrs hcs hos how hWQ hCQ
                      have hbl : (bothL ⟨r, f, b, a⟩).length = 1 := by rw [bothL_len]; exact hST.out
                      have hbe : bothL ⟨r, f, b, a⟩ = [⟨r, f, b, a⟩] := by unfold bothL; rw [HWD.out]; rfl
                      generalize hON1 : bothL ⟨r, f, b, a⟩ = one at hbl hbe HNX
                      have HONE := Lib.hid (And.intro hbl hbe); clear hON1 hbl hbe
                      have HG := Lib.hid (And.intro hG hG0); clear hG
                      rw [hkn] at hG0 ⊢
                      have HKN := Lib.hid hkn; clear hkn
                      obtain ⟨go, hgo⟩ : ∃ go, go = gk := ⟨_, rfl⟩
                      have HGO := Lib.hid hgo; clear hgo
                      go_wp2_with fail
                      clear v0 v1 v2 v3 f0 f1 f2 f3 k0 k1 k2 k3
                      have hst0 := HE.out.2.2.2.2.1
                      generalize (((wB.setCell ⟨Q, 0, none⟩ (.int .i32 r)).setCell ⟨Q, 1, none⟩ (.int .u8 f)).setCell ⟨Q, 2, none⟩ (.int .u8 b)).setCell ⟨Q, 3, none⟩ (.int .u8 a) = wD at HE hst0 ⊢
                      have hst0 : OwnC wD (Q + 1) (.slice B O d) out := hst0
                      rw [show (Value.slice B O d) = .slice B (out ++ timesL 0 one).length d by rw [timesL_zero, List.append_nil, HO.out]] at hst0
                      go_loopg [5, 12] kn (fun t u z wq => ∃ (j : Nat) (B2 : Option Addr) (d2 : Nat), z = .int .i64 j ∧ u = .slice B2 (out ++ timesL j one).length d2 ∧ Hid (j + t = kn ∧ OwnC wq (Q + 1) (.slice B2 (out ++ timesL j one).length d2) (out ++ timesL j one) ∧ RefAt wq g s p5 0 ∧ Only g W wq ∧ Blk wq Cb 57 #[.int .i32 r, .int .u8 f, .int .u8 b, .int .u8 a] ∧ Blk wq Q 57 #[.int .i32 r, .int .u8 f, .int .u8 b, .int .u8 a] ∧ (∀ k, (Value.slice B2 (out ++ timesL j one).length d2).ownBlock = some k → k ≠ Cb)))
                      case atStart =>
                        refine ⟨0, B, d, rfl, by rw [timesL_zero, List.append_nil, HO.out], Nat.zero_add _, by rw [timesL_zero, List.append_nil] at hst0 ⊢; exact hst0, HE.out.2.1, HE.out.2.2.2.1, HE.out.2.2.1, HE.out.1, fun k hk => ?_⟩
                        have h1 := HLT.out k (by cases B <;> exact hk)
                        have h2 := H5.out.2.2.2.2.1
                        omega
                      case round =>
                        obtain ⟨j, B2, d2, rfl, rfl, hq⟩ := hrel
                        have hlen : (out ++ timesL j one).length ≤ 1000000 := by rw [List.length_append, timesL_len, HONE.out.1, HO.out]; have := hq.out.1; omega
                        have k0 : wr.cell? ⟨Cb, 0, none⟩ = some (.int .i32 r) := Blk.cell hq.out.2.2.2.2.1 0
                        have k1 : wr.cell? ⟨Cb, 1, none⟩ = some (.int .u8 f) := Blk.cell hq.out.2.2.2.2.1 1
                        have k2 : wr.cell? ⟨Cb, 2, none⟩ = some (.int .u8 b) := Blk.cell hq.out.2.2.2.2.1 2
                        have k3 : wr.cell? ⟨Cb, 3, none⟩ = some (.int .u8 a) := Blk.cell hq.out.2.2.2.2.1 3
                        by_cases hj : j < kn
                        · generalize hDD : out ++ timesL j one = D at hq hlen ⊢
                          have HDD := Lib.hid hDD; clear hDD
                          generalize hDN : D.length = DN at hq hlen ⊢
                          have HDN := Lib.hid hDN; clear hDN
                          have hjk : (j : Int) ≤ (kn : Int) - 1 := by omega
                          have hQs : Q + 1 ≤ wr.heap.size := Blk.lt hq.out.2.2.2.2.2.1
                          go_wp2_with (at_builtin; refine wpList_app_cells_at rfl _ _ rfl (Q + 1) (.slice B2 DN d2) D rfl (hq.out.2.1.ext ((Ext.refl wr).alloc (.cells #[.int .i32 r, .int .u8 f, .int .u8 b, .int .u8 a] 57))) wr.heap.size 0 1 1 [⟨r, f, b, a⟩] rfl (cells_one wr ⟨r, f, b, a⟩ HRA.out.2.2) (by rw [HDN.out]; omega) (by simp) (by simp; omega) ?_)
                          intro v' w12 hown12 hgr hnew
                          have hlt2 := fun k hk => World.ownsRow.lt hq.out.2.1 k hk
                          obtain ⟨A3, c3, rfl, _⟩ := hown12.form
                          have hne2 := hq.out.2.2.2.2.2.2
                          have hcl := Blk.lt hq.out.2.2.2.2.1
                          have hWQ := H1.out.2.2.2.2
                          have hgW := H.out.2.2.2
                          have hal := (Ext.refl wr).alloc (.cells #[.int .i32 r, .int .u8 f, .int .u8 b, .int .u8 a] 57)
                          have hsz : (wr.alloc (.cells #[.int .i32 r, .int .u8 f, .int .u8 b, .int .u8 a] 57)).heap.size = wr.heap.size + 1 := by simp
                          have H12 : Hid (OwnC w12 (Q + 1) (.slice A3 (D ++ [(⟨r, f, b, a⟩ : Cel)]).length c3) (D ++ [⟨r, f, b, a⟩]) ∧ RefAt w12 g s p5 0 ∧ Only g W w12 ∧ Blk w12 Cb 57 #[.int .i32 r, .int .u8 f, .int .u8 b, .int .u8 a] ∧ Blk w12 Q 57 #[.int .i32 r, .int .u8 f, .int .u8 b, .int .u8 a] ∧ (∀ k, (Value.slice A3 (D ++ [(⟨r, f, b, a⟩ : Cel)]).length c3).ownBlock = some k → k ≠ Cb)) := by
                            refine Lib.hid ⟨hown12, Blk.grown (Blk.ext hq.out.2.2.1 hal) hgr (fun e => ?_), Only.grown (hq.out.2.2.2.1.ext hal) hgr (fun k hk => ?_), Blk.grown (Blk.ext hq.out.2.2.2.2.1 hal) hgr (fun e => hne2 _ e rfl), Blk.grown (Blk.ext hq.out.2.2.2.2.2.1 hal) hgr (fun e => ?_), fun k hk => ?_⟩
                            · have := (hlt2 _ e).1; omega
                            · have := (hlt2 _ hk).1; omega
                            · have := (hlt2 _ e).1; omega
                            · rcases hnew with h | h
                              · rw [h] at hk; exact hne2 k hk
                              · rw [h] at hk
                                rw [← Option.some.inj hk]
                                omega
                          clear hown12 hgr hnew hlt2 hne2 hsz hal k0 k1 k2 k3
                          have e12 : D ++ [⟨r, f, b, a⟩] = out ++ timesL (j + 1) one := by rw [timesL_succ, ← List.append_assoc, HDD.out, HONE.out.2]
                          rw [e12] at H12 ⊢
                          clear e12
                          have hgk := hq.out.1
                          go_wp2
                          go_roundg (gk - 1)
                          case measure => omega
                          case rel => exact ⟨j + 1, A3, c3, by go_num, rfl, by show j + 1 + (gk - 1) = kn; omega, H12.out⟩
                        · have hjk : j = kn := by have := hq.out.1; omega
                          subst hjk
                          have hjn : ¬ (j : Int) ≤ (j : Int) - 1 := by omega
                          obtain ⟨⟨f9, hf9, hR9⟩, hON, hkb⟩ := HNX.out
                          have HR9 := Lib.hid hR9; clear hR9
                          have hlen2 : (out ++ timesL j one).length = O + j * 1 := by rw [List.length_append, timesL_len, HONE.out.1, HO.out]
                          have HL2 := Lib.hid hlen2; clear hlen2
                          clear k0 k1 k2 k3
                          go_wp2_with fail
                          go_roundg (go - 1)
                          case measure => have := HGO.out; have := hin.out.2.1; omega
                          case rel =>
                            refine ⟨out ++ timesL j one, B2, d2, ⟨r, f, b, a⟩, p5, by first | rfl | rw [List.length_append], by rw [HL2.out]; exact hON, by rw [HL2.out]; have := HGO.out; have := hin.out.2.1; omega, ⟨f9, by rw [HL2.out]; omega, HR9.out⟩, HRA.out.2.1, hq.out.2.2.1, hq.out.2.2.2.2.2.1, hq.out.2.1, fun x hx => ?_, hq.out.2.2.2.1, Blk.lt hq.out.2.2.2.2.2.1, fun e => ?_⟩
                            · rcases List.mem_append.1 hx with hx | hx
                              · exact hin.out.2.2.2.2.2.2.2.1 x hx
                              · have hx1 := timesL_mem hx
                                rw [HONE.out.2] at hx1
                                have hco := HRA.out.2.2
                                simp only [List.mem_cons, List.not_mem_nil, or_false] at hx1
                                rw [hx1]; exact hco
                            · rw [HL2.out] at e; omega
        · have hc5b : (c5 != 0) = true := by simp [hc5]
          obtain ⟨fu, hfu, hRR⟩ := hin.out.2.2.1
          have hff := readGo_fail s N fu out ah p (by rw [HO.out]; exact hlt) (by rw [HO.out]; exact hfu) (by rw [HRA.out.1]; exact hc5)
          rw [hRR, HRA.out.1] at hff
          have HF := Lib.hid hff; clear hff hRR hfu hc5
          go_wp2_with fail
          go_ret
          refine ⟨_, rfl, ?_, ?_, ?_⟩
          · rw [HF.out]; exact isCells_none _
          · rw [HF.out]; exact H8.out.1
          · exact Only.trans hin.out.2.2.2.2.2.2.2.2.1 H8.out.2.2
      · have hR := hin.out.2.2.1
        obtain ⟨fu, hfu, hRR⟩ := hR
        rw [readGo_done _ _ _ _ _ _ (by rw [HO.out]; exact hlt)] at hRR
        have HRR := Lib.hid hRR; clear hRR hfu
        go_wp2_with fail
        go_ret
        refine ⟨_, rfl, ?_, ?_, hin.out.2.2.2.2.2.2.2.2.1⟩
        · rw [← HRR.out]
          have hi := hin.out.2.2.2.2.2.2.1.isCells hin.out.2.2.2.2.2.2.2.1
          exact hi
        · rw [← HRR.out]; exact hin.out.2.2.2.2.1
end Go.Proofs.YtcmllaeihnmkkaaDoor
