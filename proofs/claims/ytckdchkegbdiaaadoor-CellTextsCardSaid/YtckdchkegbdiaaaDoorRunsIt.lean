/- The iterator over a right row's runs: cell.runs. -/
import Derived.Test.YtckdchkegbdiaaaDoorRight
import Derived.Test.YtckdchkegbdiaaaDoorCelRuns
import Derived.Test.YtckdchkegbdiaaaDoorRange
import Derived.Shelf.Abstract
import Derived.Shelf.RegionOpen
import Derived.OwnWalkIn
import Derived.TacticsInMore
import Derived.LoopNIn
import Derived.LoopIn
import Derived.Sort.LoopGhostIn
namespace Go.Proofs.YtckdchkegbdiaaaDoor
open Go Go.RowKit Go.Shelf
attribute [local go_sem] Oper.semAt_some
attribute [local go_sem 10000] eq_cel

def runV (x : Nat × Cel) : Array Value := #[.int .i64 x.1, x.2.val]
theorem runs_of (A : Option Addr) (k c : Nat) (w : World) : Calls Tryd.prog 56 #[.slice A k c] w fun e w' => e = .returned (.func (.func 77) #[] #[.pointer (some ⟨w.heap.size, 0, none⟩)]) ∧ w' = w.alloc (.cells #[.slice A k c] 22) := by
  have hmf : ∀ (fn : Fn) (first cap : Array Value) (w : World), (Instr.makeFunc fn first cap).run Tryd.prog w = .ok (.func fn first cap) w := fun _ _ _ _ => rfl
  go_enter Tryd.func56, Tryd.ntmps56
  go_wp2
  go_ret
  exact ⟨rfl, rfl⟩
theorem box_cell {W : World} {B : Nat} {v : Value} {t : TypeId} (h : W.heap[B]? = some (.cells #[v] t (0, 0))) : W.cell? ⟨B, 0, none⟩ = some v ∧ W.frozen? ⟨B, 0, none⟩ = false := by
  constructor <;> simp [World.cell?, World.frozen?, h]
theorem CelAt.all4 {w : World} {g o : Nat} {c : Cel} (h : CelAt w g o c) : w.cell? ⟨g, o, none⟩ = some (.int .i32 c.r) ∧ w.cell? ⟨g, o + 1, none⟩ = some (.int .u8 c.f) ∧ w.cell? ⟨g, o + 2, none⟩ = some (.int .u8 c.b) ∧ w.cell? ⟨g, o + 3, none⟩ = some (.int .u8 c.a) :=
  ⟨h 0 _ rfl, h 1 _ rfl, h 2 _ rfl, h 3 _ rfl⟩
theorem set_box {W : World} {B : Nat} {v : Value} {t : TypeId} (h : W.heap[B]? = some (.cells #[v] t (0, 0))) (u : Value) : (W.setCell ⟨B, 0, none⟩ u).heap[B]? = some (.cells #[u] t (0, 0)) := by
  simp [World.setCell, Array.getElem?_modify, h]
set_option maxHeartbeats 4000000 in
set_option maxRecDepth 100000 in
theorem runs1_in (n : Nat) (hn : 3 ≤ n) (l Bn : Nat) (w0 : World) (v0 : Value) (row : List Cel) (J : List (Nat × Cel) → World → Prop) (h0 : IsCells w0 v0 row) (hr : rightL row = true) (hm : row.length ≤ 1000000) (hS : Spans w0)
    (hJ : ∀ pre A A', J pre A → Ext A A' → J pre A') (hJs : ∀ pre A u u', J pre A → A.heap[Bn]? = some (.cells #[u] 22 (0, 0)) → J pre (A.setCell ⟨Bn, 0, none⟩ u')) (hE : ∀ pre A, J pre A → Ext w0 A) (hb : w0.heap.size ≤ Bn)
    (hY : ∀ pre x W, J pre W → (∃ rest, runsL row = pre ++ x :: rest) → YieldAt Fence.wide (n - 1) Tryd.prog l (runV x) W fun e W' => e = .returned (.bool true) ∧ J (pre ++ [x]) W' ∧ W'.heap[Bn]? = W.heap[Bn]?)
    (W : World) (hB : W.heap[Bn]? = some (.cells #[v0] 22 (0, 0))) (hj : J [] W) :
    CallsIn Fence.wide n Tryd.prog 77 #[.func (.yield l) #[] #[], .pointer (some ⟨Bn, 0, none⟩)] W fun e W' => (∃ v, e = .returned v) ∧ J (runsL row) W' := by
  have HJ := Lib.hid (And.intro hJ (And.intro hE (And.intro hb hJs))); clear hJ hE hb hJs
  have HY := Lib.hid hY; clear hY
  have H0 := Lib.hid (And.intro h0 (And.intro hr (And.intro hm hS))); clear h0 hr hm hS
  refine callsIn_of_wp Tryd.func77 rfl trivial ?_ rfl
  simp only [Tryd.ntmps77, List.size_toArray, List.length_cons, List.length_nil, Nat.reduceAdd, Nat.reduceSub, Array.replicate_succ, Array.replicate_zero, List.push_toArray, List.append_toArray, List.nil_append, List.cons_append]
  gi_wp2
  gi_loopg [] row.length (fun k wr => ∃ (pre : List (Nat × Cel)) (m : List Cel) (v : Value), Hid (m.length ≤ k ∧ m.length ≤ row.length ∧ rightL m = true ∧ pre ++ runsL m = runsL row ∧ wr.heap[Bn]? = some (.cells #[v] 22 (0, 0)) ∧ IsCells w0 v m ∧ J pre wr))
  case atStart => exact ⟨[], row, v0, Nat.le_refl _, Nat.le_refl _, H0.out.2.1, rfl, hB, H0.out.1, hj⟩
  case round =>
    obtain ⟨pre, m, v, hin⟩ := hrel
    obtain ⟨B, d, hv, hmd, hBn⟩ := hin.out.2.2.2.2.2.1.form
    subst hv
    have hc := (box_cell hin.out.2.2.2.2.1).1
    cases m with
    | nil =>
      simp only [List.length_nil] at hc
      have hJ0 : J (runsL row) wr := by
        have h1 := hin.out.2.2.2.1
        rw [runsL_nil, List.append_nil] at h1
        rw [← h1]; exact hin.out.2.2.2.2.2.2
      have HJ0 := Lib.hid hJ0; clear hJ0
      gi_wp2
      go_end0
      exact ⟨⟨_, rfl⟩, HJ0.out⟩
    | cons c t =>
      have hrw := right_whole hin.out.2.2.1
      obtain ⟨g, off, rfl⟩ := hin.out.2.2.2.2.2.1.addr (by simp)
      have hm1 : (c :: t).length ≤ 1000000 := Nat.le_trans hin.out.2.1 H0.out.2.2.1
      generalize hM : c :: t = m at hin hc hmd hrw hm1
      generalize hL : m.length = L at hc hmd hm1 hin
      have HM := Lib.hid (And.intro hM hL)
      have hLp : 0 < L := by rw [← hL, ← hM]; simp
      clear hM hL
      have HR := Lib.hid hrw; clear hrw
      gi_wp2_with fail
      have hw0 := HJ.out.2.1 _ _ hin.out.2.2.2.2.2.2
      refine ⟨trivial, fun _ => by omega, (callsIn_wide.2 (whole_of m _ wr (hin.out.2.2.2.2.2.1.ext hw0) (by rw [HM.out.2]; exact hLp) (H0.out.2.2.2.ext hw0))).mono ?_⟩
      clear hw0
      rintro e w2 ⟨rfl, hx⟩
      have hb2 := (hx.block Bn (Array.getElem?_eq_some_iff.1 hin.out.2.2.2.2.1).1).trans hin.out.2.2.2.2.1
      have hj2 := HJ.out.1 _ _ _ hin.out.2.2.2.2.2.2 hx
      have H2 := Lib.hid (And.intro hb2 hj2); clear hb2 hj2 hx hc
      have hc0 : CelAt w0 g off c := by
        have := (hin.out.2.2.2.2.2.1.at' (i := 0) (x := c) (by rw [← HM.out.1]; rfl)).2
        rwa [Nat.zero_mul, Nat.add_zero] at this
      have HC0 := Lib.hid hc0; clear hc0
      have hst : c.step = 1 ∨ c.step = 2 := by have := c.step_pos; have := c.step_le; omega
      rw [HR.out.1]
      generalize hK : c.step = K at hst
      have HK := Lib.hid hK; clear hK
      rcases hst with rfl | rfl
      · gi_wp2
        obtain ⟨go, hgo⟩ : ∃ go, go = gk := ⟨_, rfl⟩
        have HGO := Lib.hid hgo; clear hgo
        gi_loopg [4] L (fun k u wq => ∃ i : Nat, u = .int .i64 i ∧ Hid (1 ≤ i ∧ i ≤ L ∧ L ≤ i + k ∧ (∀ j, j < i → m[j * 1]? = some c) ∧ Ext w2 wq))
        case atStart =>
          refine ⟨1, rfl, Nat.le_refl _, hLp, by omega, fun j hj => ?_, Ext.refl w2⟩
          obtain rfl : j = 0 := by omega
          rw [← HM.out.1]; rfl
        case round =>
          obtain ⟨i, rfl, hq⟩ := hrel
          have hil := hq.out.2.1
          have bq := (box_cell ((hq.out.2.2.2.2.block Bn (Array.getElem?_eq_some_iff.1 H2.out.1).1).trans H2.out.1)).1
          by_cases hlt : i * 1 < L
          · have hd : decide ((i : Int) < (L : Int)) = true := by simp; omega
            have hlt2 : i < L := by omega
            obtain ⟨y, hy⟩ : ∃ y, m[i * 1]? = some y := ⟨m[i * 1]'(by rw [HM.out.2]; exact hlt), List.getElem?_eq_getElem _⟩
            have hx2 := (HJ.out.2.1 _ _ H2.out.2).trans hq.out.2.2.2.2
            have hy4 := (hin.out.2.2.2.2.2.1.at' hy).2.ext hx2
            simp only [Nat.mul_one] at hy4
            have hc4 := HC0.out.ext hx2
            have HY2 := Lib.hid hy; clear hy hx2
            obtain ⟨q0, q1, q2, q3⟩ := hc4.all4
            obtain ⟨p0, p1, p2, p3⟩ := hy4.all4
            clear hc4 hy4
            gi_wp2_with fail
            refine wpIn_wide.2 ?_
            go_quiet (fail)
            generalize hEq : celEq _ _ = E
            have HEQ := Lib.hid hEq; clear hEq
            clear q0 q1 q2 q3 p0 p1 p2 p3 bq hd
            cases E with
            | true =>
              have hxy : y = c := celEq_true.1 HEQ.out
              have hq1 : ∀ j, j < i + 1 → m[j * 1]? = some c := fun j hj => by
                rcases Nat.lt_or_ge j i with h1 | h1
                · exact hq.out.2.2.2.1 j h1
                · obtain rfl : j = i := by omega
                  rw [HY2.out, hxy]
              have HQ1 := Lib.hid (And.intro hq1 hq.out); clear hq1 hxy
              gi_wp2
              gi_roundg (gk - 1)
              case measure => have := HQ1.out.2.2.2.1; omega
              case rel => exact ⟨i + 1, by go_num, by omega, by omega, by have := HQ1.out.2.2.2.1; omega, HQ1.out.1, HQ1.out.2.2.2.2.2.drewN _⟩
            | false =>
              have hxy : ¬ y = c := celEq_false.1 HEQ.out
              have hrun : IsRun c 1 m i := ⟨hq.out.2.2.2.1, by rw [HY2.out]; intro h; injection h with h; exact hxy h⟩
              have HRUN := Lib.hid hrun; clear hrun hxy
              have HX := Lib.hid (hq.out.2.2.2.2.drewN nq)
              generalize (World.drewN _ nq) = wx at HX ⊢
              have hiu := HRUN.out.unique (runN_is c 1 m (by decide))
              have hrr := right_run c m hin.out.2.2.1 i (by rw [HK.out]; exact HRUN.out.1)
              rw [HK.out] at hrr
              have hrc : runsL m = (i, c) :: runsL (m.drop (i * 1)) := by
                have := runsL_cons c t
                rw [HM.out.1, HK.out, ← hiu] at this
                exact this
              have hpre : (pre ++ [(i, c)]) ++ runsL (m.drop (i * 1)) = runsL row := by
                rw [← hin.out.2.2.2.1, hrc, List.append_assoc]; rfl
              have hpl : ∃ rest, runsL row = pre ++ (i, c) :: rest := ⟨runsL (m.drop (i * 1)), by rw [← hin.out.2.2.2.1, hrc]⟩
              have hjx := HJ.out.1 _ _ _ H2.out.2 HX.out
              have hbx := (HX.out.block Bn (Array.getElem?_eq_some_iff.1 H2.out.1).1).trans H2.out.1
              have hile : i * 1 ≤ L := by rw [← HM.out.2]; exact hrr.1
              have HP := Lib.hid (And.intro hrr (And.intro hpre (And.intro hpl (And.intro hjx hbx)))); clear hiu hrr hrc hpre hpl hjx hbx
              have bc := (box_cell HP.out.2.2.2.2).1
              have hcx := HC0.out.ext (HJ.out.2.1 _ _ HP.out.2.2.2.1)
              obtain ⟨fn, tmps, assign, body, hy, hR⟩ := HY.out pre (i, c) wx HP.out.2.2.2.1 HP.out.2.2.1
              obtain ⟨q0, q1, q2, q3⟩ := hcx.all4
              clear hcx
              dsimp only [runV, Cel.val] at hy
              gi_wp2
              refine ⟨fun _ => by omega, hR.mono ?_⟩
              rintro e W3 ⟨rfl, hj3, hb3⟩
              have hb3' := hb3.trans HP.out.2.2.2.2
              have bc3 := (box_cell hb3').1
              have bf3 := (box_cell hb3').2
              have H3 := Lib.hid (And.intro hb3' hj3); clear hb3' hj3 hb3 hR hy q0 q1 q2 q3 bc
              gi_wp2
              all_goals
                have hl3 : (m.drop (i * 1)).length = L - i * 1 := by rw [List.length_drop, HM.out.2]
                have HL3 := Lib.hid hl3; clear hl3
                gi_roundg (go - 1)
                case measure => have := HGO.out; have := hq.out.1; have := hin.out.1; omega
                case rel =>
                  refine ⟨pre ++ [(i, c)], m.drop (i * 1), _, ?_, ?_, HP.out.1.2, HP.out.2.1, set_box H3.out.1 _, ?_, HJ.out.2.2.2 _ _ _ _ H3.out.2 H3.out.1⟩
                  · rw [HL3.out]; have := HGO.out; have := hq.out.1; have := hin.out.1; omega
                  · rw [HL3.out]; have := hin.out.2.1; omega
                  · first
                    | (have h5 := hin.out.2.2.2.2.2.1.drop (i * 1) (by rw [HM.out.2]; exact hile)
                       rw [HM.out.2] at h5
                       simpa using h5)
                    | (have h6 : m.drop (i * 1) = [] := List.eq_nil_of_length_eq_zero (by rw [HL3.out]; omega)
                       rw [h6]
                       first | rw [show L - i * 1 = 0 by omega] | rw [show L - i = 0 by omega]
                       exact cells_nothing _ _ _ (fun e => by cases e))
          · have hd : decide ((i : Int) < (L : Int)) = false := by simp; omega
            have hrun : IsRun c 1 m i := ⟨hq.out.2.2.2.1, by rw [List.getElem?_eq_none (by rw [HM.out.2]; omega)]; simp⟩
            have HRUN := Lib.hid hrun; clear hrun
            have hd2 : decide (i < L) = false := by simp; omega
            have HLT := Lib.hid hlt; clear hlt
            have hw1 : IntKind.i64.wrap (i : Int) = i := by rw [IntKind.wrap_i64]; omega
            gi_wp2_with fail
            refine wpIn_wide.2 ?_
            go_quiet (fail)
            have HX := Lib.hid (hq.out.2.2.2.2.drewN nq)
            generalize (World.drewN _ nq) = wx at HX ⊢
            clear bq hd hd2 hw1
            have hiu := HRUN.out.unique (runN_is c 1 m (by decide))
            have hrr := right_run c m hin.out.2.2.1 i (by rw [HK.out]; exact HRUN.out.1)
            rw [HK.out] at hrr
            have hrc : runsL m = (i, c) :: runsL (m.drop (i * 1)) := by
              have := runsL_cons c t
              rw [HM.out.1, HK.out, ← hiu] at this
              exact this
            have hpre : (pre ++ [(i, c)]) ++ runsL (m.drop (i * 1)) = runsL row := by
              rw [← hin.out.2.2.2.1, hrc, List.append_assoc]; rfl
            have hpl : ∃ rest, runsL row = pre ++ (i, c) :: rest := ⟨runsL (m.drop (i * 1)), by rw [← hin.out.2.2.2.1, hrc]⟩
            have hjx := HJ.out.1 _ _ _ H2.out.2 HX.out
            have hbx := (HX.out.block Bn (Array.getElem?_eq_some_iff.1 H2.out.1).1).trans H2.out.1
            have hile : i * 1 ≤ L := by rw [← HM.out.2]; exact hrr.1
            have HP := Lib.hid (And.intro hrr (And.intro hpre (And.intro hpl (And.intro hjx hbx)))); clear hiu hrr hrc hpre hpl hjx hbx
            have bc := (box_cell HP.out.2.2.2.2).1
            have hcx := HC0.out.ext (HJ.out.2.1 _ _ HP.out.2.2.2.1)
            obtain ⟨fn, tmps, assign, body, hy, hR⟩ := HY.out pre (i, c) wx HP.out.2.2.2.1 HP.out.2.2.1
            obtain ⟨q0, q1, q2, q3⟩ := hcx.all4
            clear hcx
            dsimp only [runV, Cel.val] at hy
            gi_wp2
            refine ⟨fun _ => by omega, hR.mono ?_⟩
            rintro e W3 ⟨rfl, hj3, hb3⟩
            have hb3' := hb3.trans HP.out.2.2.2.2
            have bc3 := (box_cell hb3').1
            have bf3 := (box_cell hb3').2
            have H3 := Lib.hid (And.intro hb3' hj3); clear hb3' hj3 hb3 hR hy q0 q1 q2 q3 bc
            gi_wp2
            all_goals
              have hl3 : (m.drop (i * 1)).length = L - i * 1 := by rw [List.length_drop, HM.out.2]
              have HL3 := Lib.hid hl3; clear hl3
              gi_roundg (go - 1)
              case measure => have := HGO.out; have := hq.out.1; have := hin.out.1; omega
              case rel =>
                refine ⟨pre ++ [(i, c)], m.drop (i * 1), _, ?_, ?_, HP.out.1.2, HP.out.2.1, set_box H3.out.1 _, ?_, HJ.out.2.2.2 _ _ _ _ H3.out.2 H3.out.1⟩
                · rw [HL3.out]; have := HGO.out; have := hq.out.1; have := hin.out.1; omega
                · rw [HL3.out]; have := hin.out.2.1; omega
                · first
                  | (have h5 := hin.out.2.2.2.2.2.1.drop (i * 1) (by rw [HM.out.2]; exact hile)
                     rw [HM.out.2] at h5
                     simpa using h5)
                  | (have h6 : m.drop (i * 1) = [] := List.eq_nil_of_length_eq_zero (by rw [HL3.out]; omega)
                     rw [h6]
                     first | rw [show L - i * 1 = 0 by omega] | rw [show L - i = 0 by omega]
                     exact cells_nothing _ _ _ (fun e => by cases e))
      · gi_wp2
        obtain ⟨go, hgo⟩ : ∃ go, go = gk := ⟨_, rfl⟩
        have HGO := Lib.hid hgo; clear hgo
        gi_loopg [4] L (fun k u wq => ∃ i : Nat, u = .int .i64 i ∧ Hid (1 ≤ i ∧ i ≤ L ∧ L ≤ i + k ∧ (∀ j, j < i → m[j * 2]? = some c) ∧ Ext w2 wq))
        case atStart =>
          refine ⟨1, rfl, Nat.le_refl _, hLp, by omega, fun j hj => ?_, Ext.refl w2⟩
          obtain rfl : j = 0 := by omega
          rw [← HM.out.1]; rfl
        case round =>
          obtain ⟨i, rfl, hq⟩ := hrel
          have hil := hq.out.2.1
          have bq := (box_cell ((hq.out.2.2.2.2.block Bn (Array.getElem?_eq_some_iff.1 H2.out.1).1).trans H2.out.1)).1
          by_cases hlt : i * 2 < L
          · have hd : decide ((i : Int) * 2 < (L : Int)) = true := by simp; omega
            have hlt2 : i * 2 < L := by omega
            obtain ⟨y, hy⟩ : ∃ y, m[i * 2]? = some y := ⟨m[i * 2]'(by rw [HM.out.2]; exact hlt), List.getElem?_eq_getElem _⟩
            have hx2 := (HJ.out.2.1 _ _ H2.out.2).trans hq.out.2.2.2.2
            have hy4 := (hin.out.2.2.2.2.2.1.at' hy).2.ext hx2
            have hc4 := HC0.out.ext hx2
            have HY2 := Lib.hid hy; clear hy hx2
            obtain ⟨q0, q1, q2, q3⟩ := hc4.all4
            obtain ⟨p0, p1, p2, p3⟩ := hy4.all4
            clear hc4 hy4
            gi_wp2_with fail
            refine wpIn_wide.2 ?_
            go_quiet (fail)
            generalize hEq : celEq _ _ = E
            have HEQ := Lib.hid hEq; clear hEq
            clear q0 q1 q2 q3 p0 p1 p2 p3 bq hd
            cases E with
            | true =>
              have hxy : y = c := celEq_true.1 HEQ.out
              have hq1 : ∀ j, j < i + 1 → m[j * 2]? = some c := fun j hj => by
                rcases Nat.lt_or_ge j i with h1 | h1
                · exact hq.out.2.2.2.1 j h1
                · obtain rfl : j = i := by omega
                  rw [HY2.out, hxy]
              have HQ1 := Lib.hid (And.intro hq1 hq.out); clear hq1 hxy
              gi_wp2
              gi_roundg (gk - 1)
              case measure => have := HQ1.out.2.2.2.1; omega
              case rel => exact ⟨i + 1, by go_num, by omega, by omega, by have := HQ1.out.2.2.2.1; omega, HQ1.out.1, HQ1.out.2.2.2.2.2.drewN _⟩
            | false =>
              have hxy : ¬ y = c := celEq_false.1 HEQ.out
              have hrun : IsRun c 2 m i := ⟨hq.out.2.2.2.1, by rw [HY2.out]; intro h; injection h with h; exact hxy h⟩
              have HRUN := Lib.hid hrun; clear hrun hxy
              have HX := Lib.hid (hq.out.2.2.2.2.drewN nq)
              generalize (World.drewN _ nq) = wx at HX ⊢
              have hiu := HRUN.out.unique (runN_is c 2 m (by decide))
              have hrr := right_run c m hin.out.2.2.1 i (by rw [HK.out]; exact HRUN.out.1)
              rw [HK.out] at hrr
              have hrc : runsL m = (i, c) :: runsL (m.drop (i * 2)) := by
                have := runsL_cons c t
                rw [HM.out.1, HK.out, ← hiu] at this
                exact this
              have hpre : (pre ++ [(i, c)]) ++ runsL (m.drop (i * 2)) = runsL row := by
                rw [← hin.out.2.2.2.1, hrc, List.append_assoc]; rfl
              have hpl : ∃ rest, runsL row = pre ++ (i, c) :: rest := ⟨runsL (m.drop (i * 2)), by rw [← hin.out.2.2.2.1, hrc]⟩
              have hjx := HJ.out.1 _ _ _ H2.out.2 HX.out
              have hbx := (HX.out.block Bn (Array.getElem?_eq_some_iff.1 H2.out.1).1).trans H2.out.1
              have hile : i * 2 ≤ L := by rw [← HM.out.2]; exact hrr.1
              have HP := Lib.hid (And.intro hrr (And.intro hpre (And.intro hpl (And.intro hjx hbx)))); clear hiu hrr hrc hpre hpl hjx hbx
              have bc := (box_cell HP.out.2.2.2.2).1
              have hcx := HC0.out.ext (HJ.out.2.1 _ _ HP.out.2.2.2.1)
              obtain ⟨fn, tmps, assign, body, hy, hR⟩ := HY.out pre (i, c) wx HP.out.2.2.2.1 HP.out.2.2.1
              obtain ⟨q0, q1, q2, q3⟩ := hcx.all4
              clear hcx
              dsimp only [runV, Cel.val] at hy
              gi_wp2
              refine ⟨fun _ => by omega, hR.mono ?_⟩
              rintro e W3 ⟨rfl, hj3, hb3⟩
              have hb3' := hb3.trans HP.out.2.2.2.2
              have bc3 := (box_cell hb3').1
              have bf3 := (box_cell hb3').2
              have H3 := Lib.hid (And.intro hb3' hj3); clear hb3' hj3 hb3 hR hy q0 q1 q2 q3 bc
              gi_wp2
              all_goals
                have hl3 : (m.drop (i * 2)).length = L - i * 2 := by rw [List.length_drop, HM.out.2]
                have HL3 := Lib.hid hl3; clear hl3
                gi_roundg (go - 1)
                case measure => have := HGO.out; have := hq.out.1; have := hin.out.1; omega
                case rel =>
                  refine ⟨pre ++ [(i, c)], m.drop (i * 2), _, ?_, ?_, HP.out.1.2, HP.out.2.1, set_box H3.out.1 _, ?_, HJ.out.2.2.2 _ _ _ _ H3.out.2 H3.out.1⟩
                  · rw [HL3.out]; have := HGO.out; have := hq.out.1; have := hin.out.1; omega
                  · rw [HL3.out]; have := hin.out.2.1; omega
                  · first
                    | (have h5 := hin.out.2.2.2.2.2.1.drop (i * 2) (by rw [HM.out.2]; exact hile)
                       rw [HM.out.2] at h5
                       simpa using h5)
                    | (have h6 : m.drop (i * 2) = [] := List.eq_nil_of_length_eq_zero (by rw [HL3.out]; omega)
                       rw [h6]
                       first | rw [show L - i * 2 = 0 by omega] | rw [show L - i = 0 by omega]
                       exact cells_nothing _ _ _ (fun e => by cases e))
          · have hd : decide ((i : Int) * 2 < (L : Int)) = false := by simp; omega
            have hrun : IsRun c 2 m i := ⟨hq.out.2.2.2.1, by rw [List.getElem?_eq_none (by rw [HM.out.2]; omega)]; simp⟩
            have HRUN := Lib.hid hrun; clear hrun
            have hd2 : decide (i * 2 < L) = false := by simp; omega
            have HLT := Lib.hid hlt; clear hlt
            have hw1 : IntKind.i64.wrap (i : Int) = i := by rw [IntKind.wrap_i64]; omega
            gi_wp2_with fail
            refine wpIn_wide.2 ?_
            go_quiet (fail)
            have HX := Lib.hid (hq.out.2.2.2.2.drewN nq)
            generalize (World.drewN _ nq) = wx at HX ⊢
            clear bq hd hd2 hw1
            have hiu := HRUN.out.unique (runN_is c 2 m (by decide))
            have hrr := right_run c m hin.out.2.2.1 i (by rw [HK.out]; exact HRUN.out.1)
            rw [HK.out] at hrr
            have hrc : runsL m = (i, c) :: runsL (m.drop (i * 2)) := by
              have := runsL_cons c t
              rw [HM.out.1, HK.out, ← hiu] at this
              exact this
            have hpre : (pre ++ [(i, c)]) ++ runsL (m.drop (i * 2)) = runsL row := by
              rw [← hin.out.2.2.2.1, hrc, List.append_assoc]; rfl
            have hpl : ∃ rest, runsL row = pre ++ (i, c) :: rest := ⟨runsL (m.drop (i * 2)), by rw [← hin.out.2.2.2.1, hrc]⟩
            have hjx := HJ.out.1 _ _ _ H2.out.2 HX.out
            have hbx := (HX.out.block Bn (Array.getElem?_eq_some_iff.1 H2.out.1).1).trans H2.out.1
            have hile : i * 2 ≤ L := by rw [← HM.out.2]; exact hrr.1
            have HP := Lib.hid (And.intro hrr (And.intro hpre (And.intro hpl (And.intro hjx hbx)))); clear hiu hrr hrc hpre hpl hjx hbx
            have bc := (box_cell HP.out.2.2.2.2).1
            have hcx := HC0.out.ext (HJ.out.2.1 _ _ HP.out.2.2.2.1)
            obtain ⟨fn, tmps, assign, body, hy, hR⟩ := HY.out pre (i, c) wx HP.out.2.2.2.1 HP.out.2.2.1
            obtain ⟨q0, q1, q2, q3⟩ := hcx.all4
            clear hcx
            dsimp only [runV, Cel.val] at hy
            gi_wp2
            refine ⟨fun _ => by omega, hR.mono ?_⟩
            rintro e W3 ⟨rfl, hj3, hb3⟩
            have hb3' := hb3.trans HP.out.2.2.2.2
            have bc3 := (box_cell hb3').1
            have bf3 := (box_cell hb3').2
            have H3 := Lib.hid (And.intro hb3' hj3); clear hb3' hj3 hb3 hR hy q0 q1 q2 q3 bc
            gi_wp2
            all_goals
              have hl3 : (m.drop (i * 2)).length = L - i * 2 := by rw [List.length_drop, HM.out.2]
              have HL3 := Lib.hid hl3; clear hl3
              gi_roundg (go - 1)
              case measure => have := HGO.out; have := hq.out.1; have := hin.out.1; omega
              case rel =>
                refine ⟨pre ++ [(i, c)], m.drop (i * 2), _, ?_, ?_, HP.out.1.2, HP.out.2.1, set_box H3.out.1 _, ?_, HJ.out.2.2.2 _ _ _ _ H3.out.2 H3.out.1⟩
                · rw [HL3.out]; have := HGO.out; have := hq.out.1; have := hin.out.1; omega
                · rw [HL3.out]; have := hin.out.2.1; omega
                · first
                  | (have h5 := hin.out.2.2.2.2.2.1.drop (i * 2) (by rw [HM.out.2]; exact hile)
                     rw [HM.out.2] at h5
                     simpa using h5)
                  | (have h6 : m.drop (i * 2) = [] := List.eq_nil_of_length_eq_zero (by rw [HL3.out]; omega)
                     rw [h6]
                     first | rw [show L - i * 2 = 0 by omega] | rw [show L - i = 0 by omega]
                     exact cells_nothing _ _ _ (fun e => by cases e))
end Go.Proofs.YtckdchkegbdiaaaDoor
