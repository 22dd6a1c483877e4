/- The law EscapeCounts, walked. -/
import Derived.Test.YtmppbmbhnoaggabEscI
namespace Go.Proofs.Ytmppbmbhnoaggab
open Go Go.RowKit

/-- What holds behind some characters. -/
structure CountSt (W : World) (G : Nat) (wr : World) : Prop where
  p : ∃ s, ParAt wr G s ∧ s.ok
  ext : Ext W wr
theorem blk_actAt {w : World} {g : Nat} {a : ActV} (h : Blk w g 31 (actC a).toArray) : ActAt w g 0 a := fun j u hu => by
  rw [Nat.zero_add, Blk.cell h j]; simpa using hu
theorem ActAt.num {w : World} {g : Nat} {a : ActV} (h : ActAt w g 0 a) {k : Nat} {z : Int} (hz : a.ns[k]? = some z) : w.cell? ⟨g, 5 + k, none⟩ = some (.int .i64 z) := by
  have := h (5 + k) (.int .i64 z) (by
    unfold actC
    rw [show 5 + k = k + 1 + 1 + 1 + 1 + 1 by omega]
    simp only [List.getElem?_cons_succ, List.getElem?_map, hz, Option.map_some])
  rwa [Nat.zero_add] at this
set_option maxHeartbeats 8000000 in
set_option maxRecDepth 100000 in
theorem escapeCounts_true (xs : List Int) (v : Value) (w : World) (hv : IsRunes w v xs) (hm : xs.length ≤ maxLen) :
    Calls Try.prog 8 #[v] w fun e w' => e = .returned (.bool true) ∧ Ext w w' := by
  have H := Lib.hid (And.intro hv hm); clear hv hm
  go_enter Try.func8, Try.ntmps8
  go_wp2_with fail
  refine (awake_true _).mono ?_
  rintro e W ⟨rfl, hx1⟩
  have H1 := Lib.hid hx1; clear hx1
  have hP := par_new W
  have hxP := (Ext.refl W).alloc (.cells zero12 28)
  have HP := Lib.hid (And.intro hP hxP); clear hP hxP
  go_wp2_with fail
  refine (few_of xs v _ (H.out.1.ext (H1.out.trans HP.out.2)) H.out.2).mono ?_
  rintro e W2 ⟨⟨v', rfl, _, h4⟩, rfl⟩
  have h4 := h4 W (H.out.1.ext H1.out)
  have hlen := fewL_len xs 60
  generalize fewL xs 60 = x at h4 hlen
  obtain ⟨A, c, rfl, hc, _⟩ := h4.form
  obtain ⟨L, hL⟩ : ∃ L, x.length = L := ⟨_, rfl⟩
  rw [hL] at h4 hc hlen ⊢
  have HV := Lib.hid (And.intro h4 hL); clear h4 hL
  have hs0 : CountSt W W.heap.size (W.alloc (.cells zero12 28)) := ⟨⟨_, HP.out.1, ok_innE 0 (by decide) (by decide)⟩, HP.out.2⟩
  have HS := Lib.hid hs0; clear hs0
  go_wp2
  go_loopg [6] L (fun k j wr => ∃ (i : Nat), Hid (i + k = L) ∧ j = .int .i64 i ∧ Hid (CountSt W W.heap.size wr))
  case atStart => exact ⟨0, Nat.zero_add _, rfl, HS.out⟩
  case round =>
    clear HS
    obtain ⟨i, hi, rfl, hin⟩ := hrel
    by_cases hlt : i < L
    · obtain ⟨y, hy⟩ : ∃ y, x[i]? = some y := ⟨x[i]'(by rw [HV.out.2]; exact hlt), List.getElem?_eq_getElem _⟩
      obtain ⟨_, ga, offa, rfl, ca⟩ := HV.out.1.at hy
      have da := hin.out.ext.cell ca
      have hgl : ga < wr.heap.size := lt_of_cell da
      have hgW : ga ≠ W.heap.size := by have : ga < W.heap.size := lt_of_cell ca; omega
      obtain ⟨s, hps, hoks⟩ := hin.out.p
      have hst := Step_of wr W.heap.size s y hps hoks
      have hact := act_stepE hoks y
      have hok' := ok_stepE hoks y
      generalize (stepE s y).1 = s' at hst hok'
      generalize (stepE s y).2 = X at hst hact
      have hX : X = .none ∨ (X.kind = 4 ∧ X.r = y) ∨ (X.kind ≠ 0 ∧ X.kind ≠ 4 ∧ X.n = 0 ∧ X.r = y) := by
        by_cases h0 : X.kind = 0
        · exact Or.inl (hact.2.2 h0)
        · by_cases h4 : X.kind = 4
          · exact Or.inr (Or.inl ⟨h4, hact.2.1 h0⟩)
          · exact Or.inr (Or.inr ⟨h0, h4, hact.1.only h4, hact.2.1 h0⟩)
      have hk := hact.1.kind
      have hn := hact.1.n
      have hnums := hact.1.nums
      have hrest := hact.1.rest
      have hl8 := hact.1.len
      obtain ⟨n0, n1, n2, n3, n4, n5, n6, n7, e8⟩ := eight _ hl8
      obtain ⟨X0, hX0⟩ : ∃ X0, X0 = X := ⟨_, rfl⟩
      have hta : ∀ k : Nat, k < 8 → ∃ z : Int, X0.ns[k]? = some z ∧ (0 ≤ z ∧ z ≤ 9999) ∧ (X0.n ≤ k → z = 0) := by
        intro k hk8
        rw [hX0]
        obtain ⟨z, hz⟩ : ∃ z, X.ns[k]? = some z := ⟨X.ns[k]'(by omega), List.getElem?_eq_getElem _⟩
        refine ⟨z, hz, hnums z (List.mem_of_getElem? hz), fun h => ?_⟩
        have := hrest k h
        rw [List.getD_eq_getElem?_getD, hz] at this
        exact this
      have HT := Lib.hid hta; clear hta hrest hnums hact hps hoks hl8
      have HH := Lib.hid (And.intro hin.out.ext hok'); clear hok' hin
      obtain ⟨kd, rr, pp, mm, nn, ns⟩ := X
      simp only at e8 hk hn hX
      subst e8
      have HX := Lib.hid hX0; clear hX0
      obtain ⟨hk0, hk4⟩ := hk
      have hn8 : (nn : Int) ≤ 8 := by omega
      have hn0 : (0 : Int) ≤ (nn : Int) := by omega
      rcases hX with hX | ⟨rfl, rfl⟩ | ⟨h0, h4', hz, rfl⟩
      · simp only [ActV.mk.injEq, List.cons.injEq, and_true] at hX
        obtain ⟨rfl, rfl, rfl, rfl, rfl, rfl, rfl, rfl, rfl, rfl, rfl, rfl, rfl⟩ := hX
        rw [told_any, show decide ((0 : Int) ≠ 0) = false from rfl] at hst
        have e0 : True := trivial
        have e4 : True := trivial
        have HST := Lib.hid hst; clear hst
        go_wp2_with fail
        refine HST.out.mono ?_
        rintro e w1 ⟨rfl, hp1, ho1⟩
        have HC := Lib.hid (And.intro hp1 ho1); clear hp1 ho1
        have da1 := HC.out.2.cell (p := ⟨ga, offa + i, none⟩) hgW da
        have hgl1 : ga < w1.heap.size := lt_of_cell da1
        go_wp2_with fail
        go_quiet (fail)
        clear da da1 e0 e4
        go_wp2
        obtain ⟨go, hgo⟩ : ∃ go, go = gk := ⟨_, rfl⟩
        have hi2 := Lib.hid (show i + go = L by rw [hgo]; exact hi.out)
        have HGO := Lib.hid hgo; clear hgo
        go_loopg [9] 8 (fun k a wq => ∃ (j : Nat), a = .int .i64 j ∧ Hid (j + k = 8 ∧ CountSt W W.heap.size wq ∧ ActAt wq w1.heap.size 0 X0))
        case atStart =>
          refine ⟨0, rfl, by omega, ⟨⟨s', Blk.ext HC.out.1 (((Ext.refl w1).alloc _).drewN _), HH.out.2⟩, (ext_only HH.out.1 HC.out.2 (Nat.le_refl _)).trans (((Ext.refl w1).alloc _).drewN _)⟩, ?_⟩
          rw [HX.out]
          exact (blk_actAt (show Blk (w1.alloc _) w1.heap.size 31 _ from Go.heap_alloc_new w1 _)).ext ((Ext.refl _).drewN _)
        case round =>
          obtain ⟨j, rfl, hj⟩ := hrel
          by_cases hj8 : j < 8
          · obtain ⟨z, hz, hzb, hz0⟩ := HT.out j hj8
            have d := hj.out.2.2.num hz
            have d4 : wr.cell? ⟨w1.heap.size, 4, none⟩ = some (.int .i64 X0.n) := by have := hj.out.2.2 4 _ rfl; rwa [Nat.zero_add] at this
            obtain ⟨N, hN⟩ : ∃ N, X0.n = N := ⟨_, rfl⟩
            rw [hN] at d4 hz0
            have HZ := Lib.hid hz; clear hz hN
            obtain ⟨zb1, zb2⟩ := hzb
            by_cases hjN : N ≤ j
            · obtain rfl := hz0 hjN
              clear hz0
              go_wp2
              go_roundg (gk - 1)
              case measure => have := hj.out.1; omega
              case rel => exact ⟨j + 1, by go_num, by have := hj.out.1; omega, hj.out.2⟩
            · clear hz0
              go_wp2
              go_roundg (gk - 1)
              case measure => have := hj.out.1; omega
              case rel => exact ⟨j + 1, by go_num, by have := hj.out.1; omega, hj.out.2⟩
          · go_wp2
            go_roundg (go - 1)
            case measure => have := hi2.out; have := HGO.out; omega
            case rel =>
              refine ⟨i + 1, ?_, by go_num, hj.out.2.1⟩
              show i + 1 + (go - 1) = L
              have := hi2.out; omega
      · rw [told_any, show decide ((4 : Int) ≠ 0) = true from rfl] at hst
        have e0 : True := trivial
        have e4 : True := trivial
        have HST := Lib.hid hst; clear hst
        go_wp2_with fail
        refine HST.out.mono ?_
        rintro e w1 ⟨rfl, hp1, ho1⟩
        have HC := Lib.hid (And.intro hp1 ho1); clear hp1 ho1
        have da1 := HC.out.2.cell (p := ⟨ga, offa + i, none⟩) hgW da
        have hgl1 : ga < w1.heap.size := lt_of_cell da1
        go_wp2_with fail
        go_quiet (fail)
        clear da da1 e0 e4
        go_wp2
        obtain ⟨go, hgo⟩ : ∃ go, go = gk := ⟨_, rfl⟩
        have hi2 := Lib.hid (show i + go = L by rw [hgo]; exact hi.out)
        have HGO := Lib.hid hgo; clear hgo
        go_loopg [9] 8 (fun k a wq => ∃ (j : Nat), a = .int .i64 j ∧ Hid (j + k = 8 ∧ CountSt W W.heap.size wq ∧ ActAt wq w1.heap.size 0 X0))
        case atStart =>
          refine ⟨0, rfl, by omega, ⟨⟨s', Blk.ext HC.out.1 (((Ext.refl w1).alloc _).drewN _), HH.out.2⟩, (ext_only HH.out.1 HC.out.2 (Nat.le_refl _)).trans (((Ext.refl w1).alloc _).drewN _)⟩, ?_⟩
          rw [HX.out]
          exact (blk_actAt (show Blk (w1.alloc _) w1.heap.size 31 _ from Go.heap_alloc_new w1 _)).ext ((Ext.refl _).drewN _)
        case round =>
          obtain ⟨j, rfl, hj⟩ := hrel
          by_cases hj8 : j < 8
          · obtain ⟨z, hz, hzb, hz0⟩ := HT.out j hj8
            have d := hj.out.2.2.num hz
            have d4 : wr.cell? ⟨w1.heap.size, 4, none⟩ = some (.int .i64 X0.n) := by have := hj.out.2.2 4 _ rfl; rwa [Nat.zero_add] at this
            obtain ⟨N, hN⟩ : ∃ N, X0.n = N := ⟨_, rfl⟩
            rw [hN] at d4 hz0
            have HZ := Lib.hid hz; clear hz hN
            obtain ⟨zb1, zb2⟩ := hzb
            by_cases hjN : N ≤ j
            · obtain rfl := hz0 hjN
              clear hz0
              go_wp2
              go_roundg (gk - 1)
              case measure => have := hj.out.1; omega
              case rel => exact ⟨j + 1, by go_num, by have := hj.out.1; omega, hj.out.2⟩
            · clear hz0
              go_wp2
              go_roundg (gk - 1)
              case measure => have := hj.out.1; omega
              case rel => exact ⟨j + 1, by go_num, by have := hj.out.1; omega, hj.out.2⟩
          · go_wp2
            go_roundg (go - 1)
            case measure => have := hi2.out; have := HGO.out; omega
            case rel =>
              refine ⟨i + 1, ?_, by go_num, hj.out.2.1⟩
              show i + 1 + (go - 1) = L
              have := hi2.out; omega
      · subst hz
        rw [told_any, show decide (kd ≠ 0) = true by simpa using h0] at hst
        have e0 : (kd == 0) = false := by simpa using h0
        have e4 : (kd == 4) = false := by simpa using h4'
        have e0n : (kd != 0) = true := by simpa using h0
        have e4n : (kd != 4) = true := by simpa using h4'
        have HST := Lib.hid hst; clear hst h0 h4'
        go_wp2_with fail
        refine HST.out.mono ?_
        rintro e w1 ⟨rfl, hp1, ho1⟩
        have HC := Lib.hid (And.intro hp1 ho1); clear hp1 ho1
        have da1 := HC.out.2.cell (p := ⟨ga, offa + i, none⟩) hgW da
        have hgl1 : ga < w1.heap.size := lt_of_cell da1
        go_wp2_with fail
        go_quiet (fail)
        clear da da1 e0 e4
        go_wp2
        obtain ⟨go, hgo⟩ : ∃ go, go = gk := ⟨_, rfl⟩
        have hi2 := Lib.hid (show i + go = L by rw [hgo]; exact hi.out)
        have HGO := Lib.hid hgo; clear hgo
        go_loopg [9] 8 (fun k a wq => ∃ (j : Nat), a = .int .i64 j ∧ Hid (j + k = 8 ∧ CountSt W W.heap.size wq ∧ ActAt wq w1.heap.size 0 X0))
        case atStart =>
          refine ⟨0, rfl, by omega, ⟨⟨s', Blk.ext HC.out.1 (((Ext.refl w1).alloc _).drewN _), HH.out.2⟩, (ext_only HH.out.1 HC.out.2 (Nat.le_refl _)).trans (((Ext.refl w1).alloc _).drewN _)⟩, ?_⟩
          rw [HX.out]
          exact (blk_actAt (show Blk (w1.alloc _) w1.heap.size 31 _ from Go.heap_alloc_new w1 _)).ext ((Ext.refl _).drewN _)
        case round =>
          obtain ⟨j, rfl, hj⟩ := hrel
          by_cases hj8 : j < 8
          · obtain ⟨z, hz, hzb, hz0⟩ := HT.out j hj8
            have d := hj.out.2.2.num hz
            have d4 : wr.cell? ⟨w1.heap.size, 4, none⟩ = some (.int .i64 X0.n) := by have := hj.out.2.2 4 _ rfl; rwa [Nat.zero_add] at this
            obtain ⟨N, hN⟩ : ∃ N, X0.n = N := ⟨_, rfl⟩
            rw [hN] at d4 hz0
            have HZ := Lib.hid hz; clear hz hN
            obtain ⟨zb1, zb2⟩ := hzb
            by_cases hjN : N ≤ j
            · obtain rfl := hz0 hjN
              clear hz0
              go_wp2
              go_roundg (gk - 1)
              case measure => have := hj.out.1; omega
              case rel => exact ⟨j + 1, by go_num, by have := hj.out.1; omega, hj.out.2⟩
            · clear hz0
              go_wp2
              go_roundg (gk - 1)
              case measure => have := hj.out.1; omega
              case rel => exact ⟨j + 1, by go_num, by have := hj.out.1; omega, hj.out.2⟩
          · go_wp2
            go_roundg (go - 1)
            case measure => have := hi2.out; have := HGO.out; omega
            case rel =>
              refine ⟨i + 1, ?_, by go_num, hj.out.2.1⟩
              show i + 1 + (go - 1) = L
              have := hi2.out; omega
    · go_wp2
      go_ret
      refine ⟨rfl, ?_⟩
      exact H1.out.trans hin.out.ext
end Go.Proofs.Ytmppbmbhnoaggab
