/- The law PenParts, walked. -/
import Derived.Test.YtgnknliaeoblhabDoorPenI
namespace Go.Proofs.YtgnknliaeoblhabDoor
open Go Go.RowKit
attribute [local go_sem 10000] eq_cel

theorem IsInts.drop0 {w : World} {g n c : Nat} {zs : List Int} (h : IsInts w (.slice (some ⟨g, 0, none⟩) n c) zs) (k : Nat) (hk : k < n) (hn : zs.length = n) (hc : n ≤ c) : IsInts w (.slice (some ⟨g, k, none⟩) (n - k) (c - k)) (zs.drop k) := by
  have hl : (zs.drop k).length = n - k := by rw [List.length_drop, hn]
  refine ⟨_, _, by rw [hl], ⟨by rw [hl]; omega, fun e => by cases e⟩, fun i x hi => ?_⟩
  rw [List.getElem?_drop] at hi
  obtain ⟨h1, h2⟩ := h.at' hi
  exact ⟨h1, g, k, rfl, by rw [Nat.zero_add] at h2; exact h2⟩
theorem act_fix {l : List Int} {v : Value} {w : World} {x0 x1 x2 x3 x4 x5 x6 x7 : Int} (hv : IsInts w v l) (hm : l.length ≤ maxLen) (hp : padP l (min l.length 8) = [x0, x1, x2, x3, x4, x5, x6, x7]) :
    Calls Tryd.prog 12 #[v] w fun e w' => e = .returned (.agg (actN 4 109 0 0 ((min l.length 8 : Nat) : Int) x0 x1 x2 x3 x4 x5 x6 x7)) ∧ Ext w w' := by
  refine (act_of l v w hv hm).mono ?_
  rintro e w' ⟨n0, n1, n2, n3, n4, n5, n6, n7, he, hq, hx⟩
  rw [hp] at hq
  injection hq with e0 hq
  injection hq with e1 hq
  injection hq with e2 hq
  injection hq with e3 hq
  injection hq with e4 hq
  injection hq with e5 hq
  injection hq with e6 hq
  injection hq with e7 hq
  subst e0 e1 e2 e3 e4 e5 e6 e7
  exact ⟨he, hx⟩
theorem okN_snoc {m : List Int} (h : okN m) (h8 : m.length < 8) {R : Int} (hR : 0 ≤ R ∧ R ≤ 111) (h1 : R ≠ 38) (h2 : R ≠ 48) : okN (m ++ [R]) := by
  refine ⟨by rw [List.length_append]; simp; omega, fun n hn => ?_⟩
  rcases List.mem_append.1 hn with hn | hn
  · exact h.2 n hn
  · rw [List.mem_singleton.1 hn]; exact ⟨hR, h1, h2⟩
set_option maxHeartbeats 4000000 in
set_option maxRecDepth 100000 in
theorem penParts_true (c : Cel) (l : List Int) (v : Value) (at_ : Int) (w : World) (hv : IsInts w v l) (hm : l.length ≤ maxLen) (hW : Ways w) : Calls Tryd.prog 5 #[c.val, v, .int .i64 at_] w fun e w' => e = .returned (.bool true) ∧ Ext w w' := by
  obtain ⟨cr, cf, cb, ca⟩ := c
  dsimp only [Cel.val]
  have hm2 : l.length ≤ 9223372036854775807 := hm
  obtain ⟨A, c, rfl, hc, _⟩ := hv.form
  generalize hL : l.length = L at hv hm2 hc ⊢
  have hc0 : Blk (w.alloc (.cells #[.int .i32 cr, .int .u8 cf, .int .u8 cb, .int .u8 ca] 23)) w.heap.size 23 #[.int .i32 cr, .int .u8 cf, .int .u8 cb, .int .u8 ca] := Go.heap_alloc_new w _
  have H := Lib.hid (And.intro hv (And.intro hL hW)); clear hv hL hW hm
  go_enter Tryd.func5, Tryd.ntmps5
  go_wp2_with fail
  refine (awakeP_true _ (H.out.2.2.ext ((Ext.refl w).alloc _))).mono ?_
  rintro e w1 ⟨rfl, hx⟩
  have H1 := Lib.hid (And.intro (Blk.ext hc0 hx) (((Ext.refl w).alloc _).trans hx)); clear hx hc0
  go_wp2
  go_loopg [8, 9] L (fun k u v wr => ∃ (i : Nat) (m : List Int) (A : Option Addr) (cap : Nat), u = .slice A m.length cap ∧ v = .int .i64 i ∧ Hid (i + k = L ∧ okN m ∧ OwnI wr w1.heap.size (.slice A m.length cap) m ∧ Ext w1 wr))
  case atStart => exact ⟨0, [], none, 0, rfl, rfl, Nat.zero_add _, ⟨Nat.zero_le _, fun n hn => by cases hn⟩, OwnI.nil _ _, Ext.refl _⟩
  case round =>
    obtain ⟨i, m, A, cap, rfl, rfl, hin⟩ := hrel
    have hm8 := hin.out.2.1.1
    obtain ⟨N, hN⟩ : ∃ N, m.length = N := ⟨_, rfl⟩
    rw [hN] at hin hm8 ⊢
    have HN := Lib.hid hN; clear hN
    by_cases hi : i < L ∧ N < 8
    · obtain ⟨hi, h8⟩ := hi
      have hiL : (i : Int) < (L : Int) := by omega
      have h8I : (N : Int) < 8 := by omega
      obtain ⟨x, hx⟩ : ∃ x, l[i]? = some x := ⟨l[i]'(by rw [H.out.2.1]; exact hi), List.getElem?_eq_getElem _⟩
      obtain ⟨hx64, g, off, rfl, hcx⟩ := H.out.1.at hx
      have k0 := (H1.out.2.trans hin.out.2.2.2).cell hcx
      have hr := rest112_walk x
      have hRb := rest112_in x
      generalize rest112 x = R at hr hRb
      clear hcx hx
      by_cases h3 : R ≠ 38 ∧ R ≠ 48
      · have e1 : (R != 38) = true := by simpa using h3.1
        have e2 : (R != 48) = true := by simpa using h3.2
        have HR := Lib.hid (And.intro hRb h3); clear hRb h3
        go_wp2_with (at_builtin; refine wpList_app_int rfl _ _ rfl w1.heap.size (.slice A N cap) m rfl (hin.out.2.2.1.ext ((Ext.refl wr).alloc _)) wr.heap.size R rfl (Lib.cell_of_heap (Go.heap_alloc_new wr (.cells #[.int .i64 R] 3)) 0) (by have := HN.out; omega) (hin.out.2.2.2.alloc _).size ?_)
        intro v' w5 hap
        obtain ⟨A2, cap2, rfl, _⟩ := hap.own.form
        have hx5 := ext_grown (hin.out.2.2.2.alloc _) (hin.out.2.2.1.ext ((Ext.refl wr).alloc (.cells #[.int .i64 R] 3))) hap.grown (Nat.le_refl _)
        have H5 := Lib.hid (And.intro hap.own (And.intro hx5 (okN_snoc hin.out.2.1 (by rw [HN.out]; exact h8) HR.out.1 HR.out.2.1 HR.out.2.2))); clear hx5 hap
        have hgk := hin.out.1
        go_wp2
        go_roundg (gk - 1)
        case measure => omega
        case rel => exact ⟨i + 1, m ++ [R], A2, cap2, rfl, by go_num, by show i + 1 + (gk - 1) = L; omega, H5.out.2.2, H5.out.1, H5.out.2.1⟩
      · have hgk := hin.out.1
        rcases (show R = 38 ∨ R = 48 by omega) with rfl | rfl
        · clear h3
          go_wp2
          go_roundg (gk - 1)
          case measure => omega
          case rel => exact ⟨i + 1, m, A, cap, by rw [HN.out], by go_num, by show i + 1 + (gk - 1) = L; omega, hin.out.2.1, by rw [HN.out]; exact hin.out.2.2.1, hin.out.2.2.2⟩
        · clear h3
          go_wp2
          go_roundg (gk - 1)
          case measure => omega
          case rel => exact ⟨i + 1, m, A, cap, by rw [HN.out], by go_num, by show i + 1 + (gk - 1) = L; omega, hin.out.2.1, by rw [HN.out]; exact hin.out.2.2.1, hin.out.2.2.2⟩
    · have hex : ¬ i < L ∨ (i < L ∧ ¬ N < 8) := by omega
      have hA := H1.out.1.ext hin.out.2.2.2
      have hB := H1.out.2.trans hin.out.2.2.2
      have H4 := Lib.hid (And.intro hA (And.intro hin.out.2.1 (And.intro hin.out.2.2.1 hB))); clear hA hB H1 hin hi
      by_cases h2 : N < 2
      · have h2I : (N : Int) < 2 := by omega
        rcases hex with h | ⟨h, h'⟩
        · have hiL : ¬ (i : Int) < (L : Int) := by omega
          go_wp2
          go_ret
          exact ⟨rfl, H4.out.2.2.2⟩
        · have hiL : (i : Int) < (L : Int) := by omega
          have h8I : ¬ (N : Int) < 8 := by omega
          go_wp2
          go_ret
          exact ⟨rfl, H4.out.2.2.2⟩
      · have h2I : ¬ (N : Int) < 2 := by omega
        have hint := H4.out.2.2.1.isInts (fun n hn => by have := (H4.out.2.1.2 n hn).1; unfold isI64; omega)
        have hcap : N ≤ cap := by
          obtain ⟨A3, c3, e, hc3, _⟩ := hint.form
          injection e with _ e2 e3
          omega
        obtain ⟨g, e⟩ : ∃ g, A = some ⟨g, 0, none⟩ := by
          have ho := H4.out.2.2.1
          unfold OwnI at ho
          rw [HN.out] at ho
          obtain ⟨g, c2, e, _⟩ := World.ownsRow.form ho (by omega)
          injection e with e1 _ _
          exact ⟨g, e1⟩
        subst e
        obtain ⟨k, hk1, hkn, hk⟩ := parted_at at_ N (by omega) hm8
        have hok := H4.out.2.1
        have hNl := HN.out
        have hint' : IsInts wr (.slice (some ⟨g, 0, none⟩) m.length cap) m := by rw [hNl]; exact hint
        obtain ⟨x0, x1, x2, x3, x4, x5, x6, x7, ex⟩ := eight' _ (padP_len m (min m.length 8) (by omega) (by omega))
        obtain ⟨q0, q1, q2, q3, q4, q5, q6, q7, eq⟩ := eight' _ (padP_len (m.take k) (min (m.take k).length 8) (by omega) (by omega))
        obtain ⟨z0, z1, z2, z3, z4, z5, z6, z7, ez⟩ := eight' _ (padP_len (m.drop k) (min (m.drop k).length 8) (by omega) (by omega))
        have hlt : (m.take k).length = k := by rw [List.length_take]; omega
        have hld : (m.drop k).length = N - k := by rw [List.length_drop, hNl]
        have p1 := pen_act hok (by omega) ⟨cr, cf, cb, ca⟩
        have p2 := pen_act (okN_take hok k) (by omega) ⟨cr, cf, cb, ca⟩
        have p3 := pen_act (okN_drop hok k) (by omega) ((m.take k).foldl oneP ⟨cr, cf, cb, ca⟩)
        rw [fold_parts] at p3
        rw [ex] at p1
        rw [eq] at p2
        rw [ez] at p3
        obtain ⟨M1, hM1⟩ : ∃ M : Int, ((min m.length 8 : Nat) : Int) = M := ⟨_, rfl⟩
        obtain ⟨M2, hM2⟩ : ∃ M : Int, ((min (m.take k).length 8 : Nat) : Int) = M := ⟨_, rfl⟩
        obtain ⟨M3, hM3⟩ : ∃ M : Int, ((min (m.drop k).length 8 : Nat) : Int) = M := ⟨_, rfl⟩
        have a1 := fun (U : World) (hU : Ext wr U) => act_fix (hint.ext hU) (by unfold maxLen; omega) ex
        have a2 := fun (U : World) (hU : Ext wr U) => act_fix ((hint'.cut k (by omega)).ext hU) (by unfold maxLen; omega) eq
        have a3 := fun (U : World) (hU : Ext wr U) => act_fix ((hint.drop0 k hkn hNl hcap).ext hU) (by unfold maxLen; omega) ez
        rw [hM1] at p1 a1
        rw [hM2] at p2 a2
        rw [hM3] at p3 a3
        have b1 := fun (U : World) (hU : Ext w U) => Apply_of ⟨cr, cf, cb, ca⟩ 4 109 0 0 M1 x0 x1 x2 x3 x4 x5 x6 x7 U (H.out.2.2.ext hU)
        have b2 := fun (U : World) (hU : Ext w U) => Apply_of ⟨cr, cf, cb, ca⟩ 4 109 0 0 M2 q0 q1 q2 q3 q4 q5 q6 q7 U (H.out.2.2.ext hU)
        have b3 := fun (U : World) (hU : Ext w U) => Apply_of ((m.take k).foldl oneP ⟨cr, cf, cb, ca⟩) 4 109 0 0 M3 z0 z1 z2 z3 z4 z5 z6 z7 U (H.out.2.2.ext hU)
        rw [p1] at b1
        rw [p2] at b2
        rw [p3] at b3
        generalize m.foldl oneP ⟨cr, cf, cb, ca⟩ = R at b1 b3
        generalize (m.take k).foldl oneP ⟨cr, cf, cb, ca⟩ = Q at b2 b3
        obtain ⟨rr, rf, rb, ra⟩ := R
        obtain ⟨qr, qf, qb, qa⟩ := Q
        dsimp only [Cel.val] at b1 b2 b3
        have HA := Lib.hid (And.intro a1 (And.intro a2 (And.intro a3 (And.intro (fun U (hU : Ext wr U) => b1 U (H4.out.2.2.2.trans hU)) (And.intro (fun U (hU : Ext wr U) => b2 U (H4.out.2.2.2.trans hU)) (fun U (hU : Ext wr U) => b3 U (H4.out.2.2.2.trans hU)))))))
        clear a1 a2 a3 b1 b2 b3 p1 p2 p3 ex eq ez hM1 hM2 hM3 hint hint' hok hNl hlt hld
        have hkI : (k : Int) < (N : Int) := by omega
        have hk1I : (1 : Int) ≤ (k : Int) := by omega
        have hkc : k < cap := by omega
        have hNI : (N : Int) ≤ 8 := by omega
        have hN1 : ¬ (N : Int) - 1 = 0 := by omega
        rcases hex with h | ⟨h, h'⟩
        · have hiL : ¬ (i : Int) < (L : Int) := by omega
          go_upto_region 12 with (fail)
          try simp only [List.append]
          have y0 : ∀ n : In (Ext wr), n.val.cell? ⟨w.heap.size, 0, none⟩ = some (.int .i32 cr) := fun n => n.prop.cell (H4.out.1.cell 0)
          have y1 : ∀ n : In (Ext wr), n.val.cell? ⟨w.heap.size, 1, none⟩ = some (.int .u8 cf) := fun n => n.prop.cell (H4.out.1.cell 1)
          have y2 : ∀ n : In (Ext wr), n.val.cell? ⟨w.heap.size, 2, none⟩ = some (.int .u8 cb) := fun n => n.prop.cell (H4.out.1.cell 2)
          have y3 : ∀ n : In (Ext wr), n.val.cell? ⟨w.heap.size, 3, none⟩ = some (.int .u8 ca) := fun n => n.prop.cell (H4.out.1.cell 3)
          have hE : celEq ⟨rr, rf, rb, ra⟩ ⟨rr, rf, rb, ra⟩ = true := celEq_true.2 rfl
          have hne : Nonempty (In (Ext wr)) := in_ext wr
          refine wp_region_class (Ext wr) (by kernel_rfl) (by kernel_rfl) (Ext.refl wr).drew ?_
          repeat (go_big_quiet_step (first
            | (go_at_call_of 12 (Value.slice (some ⟨g, 0, none⟩) N cap); exact quiet_ext HA.out.1 _)
            | (go_at_call_of 12 (Value.slice (some ⟨g, 0, none⟩) k cap); exact quiet_ext HA.out.2.1 _)
            | (go_at_call_of 12 (Value.slice (some ⟨g, k, none⟩) (N - k) (cap - k)); exact quiet_ext HA.out.2.2.1 _)
            | (go_at_call_of 11 (Value.agg (actN 4 109 0 0 M1 x0 x1 x2 x3 x4 x5 x6 x7)); exact quiet_ext HA.out.2.2.2.1 _)
            | (go_at_call_of 11 (Value.agg (actN 4 109 0 0 M2 q0 q1 q2 q3 q4 q5 q6 q7)); exact quiet_ext HA.out.2.2.2.2.1 _)
            | (go_at_call_of 11 (Value.agg (actN 4 109 0 0 M3 z0 z1 z2 z3 z4 z5 z6 z7)); exact quiet_ext HA.out.2.2.2.2.2 _)))
          refine wpQuiet_nil ?_
          rintro _ ⟨q, rfl⟩
          have HQ := Lib.hid (H4.out.2.2.2.trans q.prop)
          generalize q.val = w9 at HQ ⊢
          go_wp2
          go_ret
          exact ⟨rfl, HQ.out⟩
        · have hiL : (i : Int) < (L : Int) := by omega
          have h8I : ¬ (N : Int) < 8 := by omega
          go_upto_region 12 with (fail)
          try simp only [List.append]
          have y0 : ∀ n : In (Ext wr), n.val.cell? ⟨w.heap.size, 0, none⟩ = some (.int .i32 cr) := fun n => n.prop.cell (H4.out.1.cell 0)
          have y1 : ∀ n : In (Ext wr), n.val.cell? ⟨w.heap.size, 1, none⟩ = some (.int .u8 cf) := fun n => n.prop.cell (H4.out.1.cell 1)
          have y2 : ∀ n : In (Ext wr), n.val.cell? ⟨w.heap.size, 2, none⟩ = some (.int .u8 cb) := fun n => n.prop.cell (H4.out.1.cell 2)
          have y3 : ∀ n : In (Ext wr), n.val.cell? ⟨w.heap.size, 3, none⟩ = some (.int .u8 ca) := fun n => n.prop.cell (H4.out.1.cell 3)
          have hE : celEq ⟨rr, rf, rb, ra⟩ ⟨rr, rf, rb, ra⟩ = true := celEq_true.2 rfl
          have hne : Nonempty (In (Ext wr)) := in_ext wr
          refine wp_region_class (Ext wr) (by kernel_rfl) (by kernel_rfl) (Ext.refl wr).drew ?_
          repeat (go_big_quiet_step (first
            | (go_at_call_of 12 (Value.slice (some ⟨g, 0, none⟩) N cap); exact quiet_ext HA.out.1 _)
            | (go_at_call_of 12 (Value.slice (some ⟨g, 0, none⟩) k cap); exact quiet_ext HA.out.2.1 _)
            | (go_at_call_of 12 (Value.slice (some ⟨g, k, none⟩) (N - k) (cap - k)); exact quiet_ext HA.out.2.2.1 _)
            | (go_at_call_of 11 (Value.agg (actN 4 109 0 0 M1 x0 x1 x2 x3 x4 x5 x6 x7)); exact quiet_ext HA.out.2.2.2.1 _)
            | (go_at_call_of 11 (Value.agg (actN 4 109 0 0 M2 q0 q1 q2 q3 q4 q5 q6 q7)); exact quiet_ext HA.out.2.2.2.2.1 _)
            | (go_at_call_of 11 (Value.agg (actN 4 109 0 0 M3 z0 z1 z2 z3 z4 z5 z6 z7)); exact quiet_ext HA.out.2.2.2.2.2 _)))
          refine wpQuiet_nil ?_
          rintro _ ⟨q, rfl⟩
          have HQ := Lib.hid (H4.out.2.2.2.trans q.prop)
          generalize q.val = w9 at HQ ⊢
          go_wp2
          go_ret
          exact ⟨rfl, HQ.out⟩
end Go.Proofs.YtgnknliaeoblhabDoor
