/- The law EscapeText, walked. -/
import Derived.Test.YtmppbmbhnoaggabEscI
import Derived.Test.YtmppbmbhnoaggabEscNumMath
namespace Go.Proofs.Ytmppbmbhnoaggab
open Go Go.RowKit

theorem rest5 (a : Int) : ∃ I : Nat, I < 5 ∧ (wrap64 (a.tmod 5 + 5)).tmod 5 = (I : Int) := by
  have h1 := Int.tmod_lt_of_pos a (show (0 : Int) < 5 by decide)
  have h2 := Int.lt_tmod_of_pos a (show (0 : Int) < 5 by decide)
  generalize a.tmod 5 = u at h1 h2
  rw [show wrap64 (u + 5) = u + 5 by unfold wrap64; omega]
  have h3 := Int.tmod_lt_of_pos (u + 5) (show (0 : Int) < 5 by decide)
  have h4 := Int.tmod_nonneg 5 (show 0 ≤ u + 5 by omega)
  exact ⟨((u + 5).tmod 5).toNat, by omega, by omega⟩
/-- What holds behind some characters. -/
structure TextSt (W : World) (G : Nat) (wr : World) : Prop where
  p : ParAt wr G .new
  q : ParAt wr (G + 1) (.inn 4)
  ext : Ext W wr
theorem text_starts (I : Nat) (h : I < 5) (c : Int) (hc : c = [80, 88, 93, 94, 95].getD I 0) : runE .new [27, c] = ([], .inn 4) := by
  have h5 : I = 0 ∨ I = 1 ∨ I = 2 ∨ I = 3 ∨ I = 4 := by omega
  rcases h5 with rfl | rfl | rfl | rfl | rfl <;> subst hc <;> decide
set_option maxHeartbeats 8000000 in
set_option maxRecDepth 100000 in
theorem escapeText_true (xs : List Int) (v : Value) (a : Int) (w : World) (hv : IsRunes w v xs) (hm : xs.length ≤ maxLen) :
    Calls Try.prog 7 #[v, .int .i64 a] w fun e w' => e = .returned (.bool true) ∧ Ext w w' := by
  have H := Lib.hid (And.intro hv hm); clear hv hm
  go_enter Try.func7, Try.ntmps7
  go_wp2_with fail
  refine (awake_true _).mono ?_
  rintro e W ⟨rfl, hx1⟩
  have H1 := Lib.hid hx1; clear hx1
  go_wp2_with fail
  refine (few_of xs v _ (H.out.1.ext H1.out) H.out.2).mono ?_
  rintro e W2 ⟨⟨v', rfl, h4, _⟩, rfl⟩
  have hlen := fewL_len xs 60
  generalize fewL xs 60 = x at h4 hlen
  obtain ⟨A, c, rfl, hc, _⟩ := h4.form
  obtain ⟨L, hL⟩ : ∃ L, x.length = L := ⟨_, rfl⟩
  rw [hL] at h4 hc hlen ⊢
  have HV := Lib.hid (And.intro h4 hL); clear h4 hL
  obtain ⟨I, hI5, hI⟩ := rest5 a
  obtain ⟨C, hC⟩ : ∃ C : Int, C = [80, 88, 93, 94, 95].getD I 0 := ⟨_, rfl⟩
  have hrun := text_starts I hI5 C hC
  have hCb : 0 ≤ C ∧ C ≤ 127 := by
    have h5 : I = 0 ∨ I = 1 ∨ I = 2 ∨ I = 3 ∨ I = 4 := by omega
    rcases h5 with rfl | rfl | rfl | rfl | rfl <;> subst hC <;> decide
  have harr : (#[.int .i32 80, .int .i32 88, .int .i32 93, .int .i32 94, .int .i32 95] : Array Value)[I]? = some (.int .i32 C) := by
    have h5 : I = 0 ∨ I = 1 ∨ I = 2 ∨ I = 3 ∨ I = 4 := by omega
    rcases h5 with rfl | rfl | rfl | rfl | rfl <;> subst hC <;> rfl
  have hcell : (((W2.alloc (.cells zero12 28)).alloc (.cells zero12 28)).alloc (.cells #[.int .i32 80, .int .i32 88, .int .i32 93, .int .i32 94, .int .i32 95] 46)).cell? ⟨W2.heap.size + 1 + 1, I, none⟩ = some (.int .i32 C) := by
    have hb : Blk (((W2.alloc (.cells zero12 28)).alloc (.cells zero12 28)).alloc (.cells #[.int .i32 80, .int .i32 88, .int .i32 93, .int .i32 94, .int .i32 95] 46)) (W2.heap.size + 1 + 1) 46 #[.int .i32 80, .int .i32 88, .int .i32 93, .int .i32 94, .int .i32 95] := by
      have := Go.heap_alloc2_new (W2.alloc (.cells zero12 28)) (.cells zero12 28) (.cells #[.int .i32 80, .int .i32 88, .int .i32 93, .int .i32 94, .int .i32 95] 46)
      rwa [World.size_alloc] at this
    rw [Blk.cell hb I]; exact harr
  have HR := Lib.hid (And.intro hrun hCb); clear hrun hCb hC
  have hpp : ParAt (W2.alloc (.cells zero12 28)) W2.heap.size .new := par_new W2
  have hqq : ParAt ((W2.alloc (.cells zero12 28)).alloc (.cells zero12 28)) (W2.heap.size + 1) .new := by
    have := par_new (W2.alloc (.cells zero12 28)); rwa [World.size_alloc] at this
  have hx4 := ((((Ext.refl W2).alloc (.cells zero12 28)).alloc (.cells zero12 28)).alloc (.cells #[.int .i32 80, .int .i32 88, .int .i32 93, .int .i32 94, .int .i32 95] 46)).alloc (.cells #[.int .i32 27, .int .i32 C] 21)
  have hr4 := runes_new (((W2.alloc (.cells zero12 28)).alloc (.cells zero12 28)).alloc (.cells #[.int .i32 80, .int .i32 88, .int .i32 93, .int .i32 94, .int .i32 95] 46)) [27, C]
    (fun n hn => by simp only [List.mem_cons, List.not_mem_nil, or_false] at hn; have := HR.out.2; unfold isI32; omega) 2 rfl (by decide) #[.int .i32 27, .int .i32 C] rfl
  rw [show (((W2.alloc (.cells zero12 28)).alloc (.cells zero12 28)).alloc (.cells #[.int .i32 80, .int .i32 88, .int .i32 93, .int .i32 94, .int .i32 95] 46)).heap.size = W2.heap.size + 1 + 1 + 1 by simp] at hr4
  have hp4 := hpp.ext ((((Ext.refl (W2.alloc (.cells zero12 28))).alloc (.cells zero12 28)).alloc (.cells #[.int .i32 80, .int .i32 88, .int .i32 93, .int .i32 94, .int .i32 95] 46)).alloc (.cells #[.int .i32 27, .int .i32 C] 21))
  have hq4 := hqq.ext (((Ext.refl ((W2.alloc (.cells zero12 28)).alloc (.cells zero12 28))).alloc (.cells #[.int .i32 80, .int .i32 88, .int .i32 93, .int .i32 94, .int .i32 95] 46)).alloc (.cells #[.int .i32 27, .int .i32 C] 21))
  have hb4 : Beside (.slice (some ⟨W2.heap.size + 1 + 1 + 1, 0, none⟩) 2 2) (W2.heap.size + 1) := by
    intro g' off n' c' e
    injection e with e1 _ _
    injection e1 with e1
    injection e1 with e1 _ _
    omega
  have H4 := Lib.hid (And.intro hp4 (And.intro hq4 (And.intro hx4 (And.intro hr4 hb4)))); clear hpp hqq hx4 hr4 hp4 hq4 hb4
  go_wp2_with fail
  refine (Feed_of _ (W2.heap.size + 1) .new _ [27, C] H4.out.2.1 (ok_innE 0 (by decide) (by decide)) H4.out.2.2.2.1 (fun _ => H4.out.2.2.2.2) (show 2 ≤ 100000 by decide)).mono ?_
  rintro e W6 ⟨v6, rfl, _, hq6, hy6⟩
  rw [HR.out.1] at hq6
  have hst : TextSt W2 W2.heap.size W6 := ⟨H4.out.1.only hy6 (by omega), hq6, ext_only H4.out.2.2.1 hy6 (by omega)⟩
  have HS := Lib.hid hst; clear hq6 hy6 hst hcell harr hI hI5
  go_wp2
  go_loopg [10] L (fun k j wr => ∃ (i : Nat), Hid (i + k = L) ∧ j = .int .i64 i ∧ Hid (TextSt W2 W2.heap.size wr))
  case atStart => exact ⟨0, Nat.zero_add _, rfl, HS.out⟩
  case round =>
    clear HS
    obtain ⟨i, hi, rfl, hin⟩ := hrel
    by_cases hlt : i < L
    · obtain ⟨r, hr⟩ : ∃ r, x[i]? = some r := ⟨x[i]'(by rw [HV.out.2]; exact hlt), List.getElem?_eq_getElem _⟩
      obtain ⟨_, ga, offa, rfl, ca⟩ := HV.out.1.at hr
      have da := hin.out.ext.cell ca
      clear ca hr
      have hcs : (32 ≤ r ∧ r ≤ 126) ∨ (160 ≤ r ∧ r ≤ 1114111) ∨ r < 32 ∨ (127 ≤ r ∧ r ≤ 159) ∨ 1114111 < r := by omega
      rcases hcs with ⟨k1, k2⟩ | ⟨k1, k2⟩ | k1 | ⟨k1, k2⟩ | k1
      iterate 2
        · have hs1 := Step_of wr W2.heap.size .new r hin.out.p (ok_innE 0 (by decide) (by decide))
          rw [step_print r (by omega)] at hs1
          simp only [told_print] at hs1
          have hs2 := fun W (k : ParAt W (W2.heap.size + 1) (.inn 4)) => Step_of W (W2.heap.size + 1) (.inn 4) r k (ok_innE 4 (by decide) (by decide))
          rw [step_left r (by omega)] at hs2
          simp only [told_none] at hs2
          have HF := Lib.hid (And.intro hs1 hs2); clear hs1 hs2
          go_wp2_with fail
          clear da
          refine HF.out.1.mono ?_
          rintro e w7 ⟨rfl, hp7, hy7⟩
          have hxa := (Ext.refl w7).alloc (.cells #[.int .i64 1, .int .i32 r, .int .u8 0, .int .u8 0, .int .i64 0, .int .i64 0, .int .i64 0, .int .i64 0, .int .i64 0, .int .i64 0, .int .i64 0, .int .i64 0, .int .i64 0] 31)
          have hba : Blk (w7.alloc (.cells #[.int .i64 1, .int .i32 r, .int .u8 0, .int .u8 0, .int .i64 0, .int .i64 0, .int .i64 0, .int .i64 0, .int .i64 0, .int .i64 0, .int .i64 0, .int .i64 0, .int .i64 0] 31)) w7.heap.size 31 #[.int .i64 1, .int .i32 r, .int .u8 0, .int .u8 0, .int .i64 0, .int .i64 0, .int .i64 0, .int .i64 0, .int .i64 0, .int .i64 0, .int .i64 0, .int .i64 0, .int .i64 0] := Go.heap_alloc_new _ _
          have h7 : TextSt W2 W2.heap.size (w7.alloc (.cells #[.int .i64 1, .int .i32 r, .int .u8 0, .int .u8 0, .int .i64 0, .int .i64 0, .int .i64 0, .int .i64 0, .int .i64 0, .int .i64 0, .int .i64 0, .int .i64 0, .int .i64 0] 31)) :=
            ⟨hp7.ext hxa, (hin.out.q.only hy7 (by omega)).ext hxa, (ext_only hin.out.ext hy7 (Nat.le_refl _)).trans hxa⟩
          have hlt7 : W2.heap.size + 1 < w7.heap.size := (hin.out.q.only hy7 (by omega)).lt
          have H7 := Lib.hid (And.intro h7 (And.intro hba hlt7)); clear h7 hba hlt7 hxa hp7 hy7
          go_wp2_with fail
          refine (HF.out.2 _ H7.out.1.q).mono ?_
          rintro e w8 ⟨rfl, hq8, hy8⟩
          have hxb := (Ext.refl w8).alloc (.cells zero13 31)
          have hba8 := (H7.out.2.1.only hy8 (by have := H7.out.2.2; omega)).ext hxb
          have h8 : TextSt W2 W2.heap.size (w8.alloc (.cells zero13 31)) := ⟨(H7.out.1.p.only hy8 (by omega)).ext hxb, hq8.ext hxb, (ext_only H7.out.1.ext hy8 (by omega)).trans hxb⟩
          have d0 : (w8.alloc (.cells zero13 31)).cell? ⟨w7.heap.size, 0, none⟩ = some (.int .i64 1) := hba8.cell 0
          have d1 : (w8.alloc (.cells zero13 31)).cell? ⟨w7.heap.size, 1, none⟩ = some (.int .i32 r) := hba8.cell 1
          have d4 : (w8.alloc (.cells zero13 31)).cell? ⟨w7.heap.size, 4, none⟩ = some (.int .i64 0) := hba8.cell 4
          have hd8 : w8.cell? ⟨w7.heap.size, 0, none⟩ = some (.int .i64 1) := (H7.out.2.1.only hy8 (by have := H7.out.2.2; omega)).cell 0
          have hd9 : w8.cell? ⟨w7.heap.size, 1, none⟩ = some (.int .i32 r) := (H7.out.2.1.only hy8 (by have := H7.out.2.2; omega)).cell 1
          have hd10 : w8.cell? ⟨w7.heap.size, 4, none⟩ = some (.int .i64 0) := (H7.out.2.1.only hy8 (by have := H7.out.2.2; omega)).cell 4
          have hl8 : w7.heap.size < w8.heap.size := (H7.out.2.1.only hy8 (by have := H7.out.2.2; omega)).lt
          have H8 := Lib.hid h8; clear h8 hxb hba8 hq8 hy8
          go_wp2_with fail
          refine (Idle_of _ _ _ H8.out.q rfl).mono ?_
          rintro e w9 ⟨rfl, rfl⟩
          rw [show decide ((Par.inn 4).st = 0) = false from rfl]
          go_wp2_with fail
          refine (Idle_of _ _ _ H8.out.p rfl).mono ?_
          rintro e w9 ⟨rfl, rfl⟩
          rw [show decide (Par.new.st = 0) = true from rfl]
          clear d0 d1 d4 hd8 hd9 hd10
          go_wp2
          go_roundg (gk - 1)
          case measure => have := hi.out; omega
          case rel =>
            refine ⟨i + 1, ?_, by go_num, H8.out⟩
            show i + 1 + (gk - 1) = L
            have := hi.out; omega
      all_goals
        go_wp2
        go_roundg (gk - 1)
        case measure => have := hi.out; omega
        case rel =>
          refine ⟨i + 1, ?_, by go_num, hin.out⟩
          show i + 1 + (gk - 1) = L
          have := hi.out; omega
    · have hs1 := fun W (k : ParAt W (W2.heap.size + 1) (.inn 4)) => Step_of W (W2.heap.size + 1) (.inn 4) 7 k (ok_innE 4 (by decide) (by decide))
      rw [step_bell] at hs1
      simp only [told_none] at hs1
      have hs2 := fun W (k : ParAt W (W2.heap.size + 1) .new) => Step_of W (W2.heap.size + 1) .new 97 k (ok_innE 0 (by decide) (by decide))
      rw [step_print 97 (by omega)] at hs2
      simp only [told_print] at hs2
      have HF := Lib.hid (And.intro hs1 hs2); clear hs1 hs2
      go_wp2_with fail
      refine (HF.out.1 _ hin.out.q).mono ?_
      rintro e w7 ⟨rfl, hq7, hy7⟩
      have hx7 := (ext_only hin.out.ext hy7 (by omega)).alloc (.cells zero13 31)
      have H7 := Lib.hid (And.intro (hq7.ext ((Ext.refl w7).alloc (.cells zero13 31))) hx7); clear hq7 hy7 hx7
      go_wp2_with fail
      refine (HF.out.2 _ H7.out.1).mono ?_
      rintro e w8 ⟨rfl, hq8, hy8⟩
      have H8 := Lib.hid (ext_only H7.out.2 hy8 (by omega)); clear hq8 hy8
      go_wp2
      go_ret
      exact ⟨rfl, (H1.out.trans H8.out).alloc _⟩
end Go.Proofs.Ytmppbmbhnoaggab
