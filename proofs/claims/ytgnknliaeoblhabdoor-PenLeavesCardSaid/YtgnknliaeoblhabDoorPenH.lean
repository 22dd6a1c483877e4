/- The law PenLeaves, walked. -/
import Derived.Test.YtgnknliaeoblhabDoorPenG
import Derived.Test.YtgnknliaeoblhabDoorWhole
import Derived.Deep.CutBlock
namespace Go.Proofs.YtgnknliaeoblhabDoor
open Go Go.RowKit
attribute [local go_sem 10000] eq_cel

theorem low10 (m : Int) : ∃ K : Nat, K < 1024 ∧ bits .and .i64 m 1023 = (K : Int) := by
  have h := i64_mask m 10 (by decide) 1023 (by decide)
  have e : ((2 ^ 10 : Nat) : Int) = 1024 := by decide
  rw [e] at h
  exact ⟨(m % 1024).toNat, by omega, by rw [h]; omega⟩
/-- Numbers that say nothing. -/
def mute (K : Nat) : Prop := K = 6 ∨ (8 ≤ K ∧ K ≤ 21) ∨ K = 26 ∨ (28 ≤ K ∧ K ≤ 29) ∨ (50 ≤ K ∧ K ≤ 89) ∨ 108 ≤ K
theorem wayP_mute {K : Nat} (h : mute K) (i : Nat) (hi : i < 6) (a : Int) : wayP i a K = a := by
  unfold mute at h
  unfold wayP
  have h1 : ¬ (K : Int) = onW i := by rcases bitW_cases i hi with rfl | rfl | rfl | rfl | rfl | rfl <;> (unfold onW; simp; omega)
  have h2 : ¬ (K : Int) = offW i := by rcases bitW_cases i hi with rfl | rfl | rfl | rfl | rfl | rfl <;> (unfold offW; simp; omega)
  rw [if_neg h1, if_neg h2]
theorem pen_mute {K : Nat} (h : mute K) (c : Cel) : penP c 4 109 0 0 1 [(K : Int), 0, 0, 0, 0, 0, 0, 0] = c := by
  have h' := h
  unfold mute at h'
  have ho : obeyedP c (K : Int) [] = (c, []) := by
    unfold obeyedP
    rw [if_neg (by omega), if_neg (by omega), if_neg (by omega), if_neg (by omega), if_neg (by omega), if_neg (by omega), if_neg (by omega), if_neg (by omega), if_neg (by omega)]
    rw [drawnP_eq, wayP_mute h 0 (by decide), wayP_mute h 1 (by decide), wayP_mute h 2 (by decide), wayP_mute h 3 (by decide), wayP_mute h 4 (by decide), wayP_mute h 5 (by decide)]
  have e : penP c 4 109 0 0 1 [(K : Int), 0, 0, 0, 0, 0, 0, 0] = runP 7 (obeyedP c (K : Int) []).1 (obeyedP c (K : Int) []).2 := rfl
  rw [e, ho, runP_nil]
set_option maxHeartbeats 4000000 in
set_option maxRecDepth 100000 in
theorem penLeaves_true (c : Cel) (kd r p m n n0 n1 n2 n3 n4 n5 n6 n7 at_ : Int) (w : World) (hW : Ways w) : Calls Tryd.prog 4 #[c.val, .agg (actN kd r p m n n0 n1 n2 n3 n4 n5 n6 n7), .int .i64 at_] w fun e w' => e = .returned (.bool true) ∧ Ext w w' := by
  obtain ⟨cr, cf, cb, ca⟩ := c
  dsimp only [Cel.val]
  obtain ⟨K, hK, hKb⟩ := low10 at_
  have hc0 : Blk ((w.alloc (.cells #[.int .i32 cr, .int .u8 cf, .int .u8 cb, .int .u8 ca] 23)).alloc (.cells (actN kd r p m n n0 n1 n2 n3 n4 n5 n6 n7) 28)) w.heap.size 23 #[.int .i32 cr, .int .u8 cf, .int .u8 cb, .int .u8 ca] := Blk.ext (Go.heap_alloc_new w _) ((Ext.refl _).alloc _)
  have ha0 : Blk ((w.alloc (.cells #[.int .i32 cr, .int .u8 cf, .int .u8 cb, .int .u8 ca] 23)).alloc (.cells (actN kd r p m n n0 n1 n2 n3 n4 n5 n6 n7) 28)) (w.heap.size + 1) 28 (actN kd r p m n n0 n1 n2 n3 n4 n5 n6 n7) := heap_two _ _ _
  have hx0 : Ext w ((w.alloc (.cells #[.int .i32 cr, .int .u8 cf, .int .u8 cb, .int .u8 ca] 23)).alloc (.cells (actN kd r p m n n0 n1 n2 n3 n4 n5 n6 n7) 28)) := ((Ext.refl w).alloc _).alloc _
  have HB := Lib.hid (And.intro hc0 (And.intro ha0 (And.intro hx0 hW))); clear hc0 ha0 hx0 hW
  go_enter Tryd.func4, Tryd.ntmps4
  go_wp2_with fail
  refine (awakeP_true _ (HB.out.2.2.2.ext HB.out.2.2.1)).mono ?_
  rintro e w1 ⟨rfl, hx⟩
  have H1 := Lib.hid (And.intro (Blk.ext HB.out.1 hx) (And.intro (Blk.ext HB.out.2.1 hx) (HB.out.2.2.1.trans hx))); have HW := Lib.hid HB.out.2.2.2; clear hx HB
  go_upto_region 2 with (fail)
  go_cut [29] from 12 to 28 (fun b wx => ∃ B : Bool, b = .bool B ∧ Hid (B = false → kd ≠ 4 ∨ r ≠ 109 ∨ p ≠ 0 ∨ m ≠ 0) ∧ wx = w1)
  case first =>
    have k0 : w1.cell? ⟨w.heap.size + 1, 0, none⟩ = some (.int .i64 kd) := H1.out.2.1.cell 0
    have k1 : w1.cell? ⟨w.heap.size + 1, 1, none⟩ = some (.int .i32 r) := H1.out.2.1.cell 1
    have k2 : w1.cell? ⟨w.heap.size + 1, 2, none⟩ = some (.int .u8 p) := H1.out.2.1.cell 2
    have k3 : w1.cell? ⟨w.heap.size + 1, 3, none⟩ = some (.int .u8 m) := H1.out.2.1.cell 3
    rcases (show kd ≠ 4 ∨ (kd = 4 ∧ r ≠ 109) ∨ (kd = 4 ∧ r = 109 ∧ p ≠ 0) ∨ (kd = 4 ∧ r = 109 ∧ p = 0 ∧ m ≠ 0) ∨ (kd = 4 ∧ r = 109 ∧ p = 0 ∧ m = 0) by omega) with h1 | ⟨rfl, h1⟩ | ⟨rfl, rfl, h1⟩ | ⟨rfl, rfl, rfl, h1⟩ | ⟨rfl, rfl, rfl, rfl⟩
    · have e1 : (kd == 4) = false := by simpa using h1
      have HH := Lib.hid h1; clear h1
      go_wp2_with fail
      go_meet
      exact ⟨false, rfl, Lib.hid (fun _ => .inl HH.out), rfl⟩
    · have e1 : (r == 109) = false := by simpa using h1
      have HH := Lib.hid h1; clear h1
      go_wp2_with fail
      go_meet
      exact ⟨false, rfl, Lib.hid (fun _ => .inr (.inl HH.out)), rfl⟩
    · have e1 : (p == 0) = false := by simpa using h1
      have HH := Lib.hid h1; clear h1
      go_wp2_with fail
      go_meet
      exact ⟨false, rfl, Lib.hid (fun _ => .inr (.inr (.inl HH.out))), rfl⟩
    · have e1 : (m == 0) = false := by simpa using h1
      have HH := Lib.hid h1; clear h1
      go_wp2_with fail
      go_meet
      exact ⟨false, rfl, Lib.hid (fun _ => .inr (.inr (.inr HH.out))), rfl⟩
    · go_wp2_with fail
      go_meet
      exact ⟨true, rfl, Lib.hid (fun e => by cases e), rfl⟩
  case rest =>
  obtain ⟨B, rfl, HN, rfl⟩ := hcut
  go_upto_if 29 with (fail)
  go_cut [7] from 30 to 30 (fun up wx => up = .bool true ∧ ∃ m' : Int, Hid ((kd ≠ 4 ∨ r ≠ 109 ∨ p ≠ 0 ∨ m' ≠ 0) ∧ Blk wx w.heap.size 23 #[.int .i32 cr, .int .u8 cf, .int .u8 cb, .int .u8 ca] ∧ Blk wx (w.heap.size + 1) 28 (actN kd r p m' n n0 n1 n2 n3 n4 n5 n6 n7) ∧ Ext w wx))
  case first =>
    cases B with
    | false =>
      go_wp2_with fail
      go_meet
      exact ⟨rfl, m, Lib.hid ⟨HN.out trivial, H1.out⟩⟩
    | true =>
      have k3 : wc.cell? ⟨w.heap.size + 1, 3, none⟩ = some (.int .u8 m) := H1.out.2.1.cell 3
      have f3 := H1.out.2.1.frozen 3
      have ho := (Only.refl (w.heap.size + 1) wc).setCell (i := 3) (.int .u8 33)
      have HS := Lib.hid (And.intro (H1.out.1.only ho (by omega)) (And.intro (Blk.set_ H1.out.2.1 3 (.int .u8 33)) (H1.out.2.2.setCell (p := ⟨w.heap.size + 1, 3, none⟩) (Nat.le_succ _) (.int .u8 33)))); clear ho
      go_wp2_with fail
      go_meet
      exact ⟨rfl, 33, Lib.hid ⟨.inr (.inr (.inr (by decide))), HS.out⟩⟩
  case rest =>
  obtain ⟨rfl, m', H2⟩ := hcut
  clear H1
  obtain ⟨w2, hw2⟩ : ∃ wy, wy = wc := ⟨_, rfl⟩
  subst hw2
  go_upto_region 5 with (fail)
  go_cut [9] from 33 to 66 (fun s wx => ∃ S : Bool, s = .bool S ∧ Hid (S = false → mute K) ∧ wx = w2)
  case first =>
    rcases (show (K ≤ 5) ∨ (K = 6) ∨ (K = 7) ∨ (8 ≤ K ∧ K ≤ 21) ∨ (22 ≤ K ∧ K ≤ 25) ∨ (K = 26) ∨ (K = 27) ∨ (28 ≤ K ∧ K ≤ 29) ∨ (30 ≤ K ∧ K ≤ 49) ∨ (50 ≤ K ∧ K ≤ 89) ∨ (90 ≤ K ∧ K ≤ 107) ∨ (108 ≤ K) by omega) with h | h | h | h | h | h | h | h | h | h | h | h
    · have d5 : decide ((K : Int) ≤ 5) = true := decide_eq_true (by omega)
      have e7 : ((K : Int) == 7) = false := by simp; omega
      have g22 : decide (22 ≤ (K : Int)) = false := decide_eq_false (by omega)
      have d25 : decide ((K : Int) ≤ 25) = true := decide_eq_true (by omega)
      have e27 : ((K : Int) == 27) = false := by simp; omega
      have g30 : decide (30 ≤ (K : Int)) = false := decide_eq_false (by omega)
      have d49 : decide ((K : Int) ≤ 49) = true := decide_eq_true (by omega)
      have g90 : decide (90 ≤ (K : Int)) = false := decide_eq_false (by omega)
      have d107 : decide ((K : Int) ≤ 107) = true := decide_eq_true (by omega)
      have HM := Lib.hid (show true = false → mute K from fun e => by cases e); clear h
      go_wp2_with fail
      go_meet
      exact ⟨_, rfl, Lib.hid (fun e => by first | exact HM.out trivial | cases e), rfl⟩
    · have d5 : decide ((K : Int) ≤ 5) = false := decide_eq_false (by omega)
      have e7 : ((K : Int) == 7) = false := by simp; omega
      have g22 : decide (22 ≤ (K : Int)) = false := decide_eq_false (by omega)
      have d25 : decide ((K : Int) ≤ 25) = true := decide_eq_true (by omega)
      have e27 : ((K : Int) == 27) = false := by simp; omega
      have g30 : decide (30 ≤ (K : Int)) = false := decide_eq_false (by omega)
      have d49 : decide ((K : Int) ≤ 49) = true := decide_eq_true (by omega)
      have g90 : decide (90 ≤ (K : Int)) = false := decide_eq_false (by omega)
      have d107 : decide ((K : Int) ≤ 107) = true := decide_eq_true (by omega)
      have HM := Lib.hid (show false = false → mute K from fun _ => by unfold mute; omega); clear h
      go_wp2_with fail
      go_meet
      exact ⟨_, rfl, Lib.hid (fun e => by first | exact HM.out trivial | cases e), rfl⟩
    · have d5 : decide ((K : Int) ≤ 5) = false := decide_eq_false (by omega)
      have e7 : ((K : Int) == 7) = true := by simp; omega
      have g22 : decide (22 ≤ (K : Int)) = false := decide_eq_false (by omega)
      have d25 : decide ((K : Int) ≤ 25) = true := decide_eq_true (by omega)
      have e27 : ((K : Int) == 27) = false := by simp; omega
      have g30 : decide (30 ≤ (K : Int)) = false := decide_eq_false (by omega)
      have d49 : decide ((K : Int) ≤ 49) = true := decide_eq_true (by omega)
      have g90 : decide (90 ≤ (K : Int)) = false := decide_eq_false (by omega)
      have d107 : decide ((K : Int) ≤ 107) = true := decide_eq_true (by omega)
      have HM := Lib.hid (show true = false → mute K from fun e => by cases e); clear h
      go_wp2_with fail
      go_meet
      exact ⟨_, rfl, Lib.hid (fun e => by first | exact HM.out trivial | cases e), rfl⟩
    · have d5 : decide ((K : Int) ≤ 5) = false := decide_eq_false (by omega)
      have e7 : ((K : Int) == 7) = false := by simp; omega
      have g22 : decide (22 ≤ (K : Int)) = false := decide_eq_false (by omega)
      have d25 : decide ((K : Int) ≤ 25) = true := decide_eq_true (by omega)
      have e27 : ((K : Int) == 27) = false := by simp; omega
      have g30 : decide (30 ≤ (K : Int)) = false := decide_eq_false (by omega)
      have d49 : decide ((K : Int) ≤ 49) = true := decide_eq_true (by omega)
      have g90 : decide (90 ≤ (K : Int)) = false := decide_eq_false (by omega)
      have d107 : decide ((K : Int) ≤ 107) = true := decide_eq_true (by omega)
      have HM := Lib.hid (show false = false → mute K from fun _ => by unfold mute; omega); clear h
      go_wp2_with fail
      go_meet
      exact ⟨_, rfl, Lib.hid (fun e => by first | exact HM.out trivial | cases e), rfl⟩
    · have d5 : decide ((K : Int) ≤ 5) = false := decide_eq_false (by omega)
      have e7 : ((K : Int) == 7) = false := by simp; omega
      have g22 : decide (22 ≤ (K : Int)) = true := decide_eq_true (by omega)
      have d25 : decide ((K : Int) ≤ 25) = true := decide_eq_true (by omega)
      have e27 : ((K : Int) == 27) = false := by simp; omega
      have g30 : decide (30 ≤ (K : Int)) = false := decide_eq_false (by omega)
      have d49 : decide ((K : Int) ≤ 49) = true := decide_eq_true (by omega)
      have g90 : decide (90 ≤ (K : Int)) = false := decide_eq_false (by omega)
      have d107 : decide ((K : Int) ≤ 107) = true := decide_eq_true (by omega)
      have HM := Lib.hid (show true = false → mute K from fun e => by cases e); clear h
      go_wp2_with fail
      go_meet
      exact ⟨_, rfl, Lib.hid (fun e => by first | exact HM.out trivial | cases e), rfl⟩
    · have d5 : decide ((K : Int) ≤ 5) = false := decide_eq_false (by omega)
      have e7 : ((K : Int) == 7) = false := by simp; omega
      have g22 : decide (22 ≤ (K : Int)) = true := decide_eq_true (by omega)
      have d25 : decide ((K : Int) ≤ 25) = false := decide_eq_false (by omega)
      have e27 : ((K : Int) == 27) = false := by simp; omega
      have g30 : decide (30 ≤ (K : Int)) = false := decide_eq_false (by omega)
      have d49 : decide ((K : Int) ≤ 49) = true := decide_eq_true (by omega)
      have g90 : decide (90 ≤ (K : Int)) = false := decide_eq_false (by omega)
      have d107 : decide ((K : Int) ≤ 107) = true := decide_eq_true (by omega)
      have HM := Lib.hid (show false = false → mute K from fun _ => by unfold mute; omega); clear h
      go_wp2_with fail
      go_meet
      exact ⟨_, rfl, Lib.hid (fun e => by first | exact HM.out trivial | cases e), rfl⟩
    · have d5 : decide ((K : Int) ≤ 5) = false := decide_eq_false (by omega)
      have e7 : ((K : Int) == 7) = false := by simp; omega
      have g22 : decide (22 ≤ (K : Int)) = true := decide_eq_true (by omega)
      have d25 : decide ((K : Int) ≤ 25) = false := decide_eq_false (by omega)
      have e27 : ((K : Int) == 27) = true := by simp; omega
      have g30 : decide (30 ≤ (K : Int)) = false := decide_eq_false (by omega)
      have d49 : decide ((K : Int) ≤ 49) = true := decide_eq_true (by omega)
      have g90 : decide (90 ≤ (K : Int)) = false := decide_eq_false (by omega)
      have d107 : decide ((K : Int) ≤ 107) = true := decide_eq_true (by omega)
      have HM := Lib.hid (show true = false → mute K from fun e => by cases e); clear h
      go_wp2_with fail
      go_meet
      exact ⟨_, rfl, Lib.hid (fun e => by first | exact HM.out trivial | cases e), rfl⟩
    · have d5 : decide ((K : Int) ≤ 5) = false := decide_eq_false (by omega)
      have e7 : ((K : Int) == 7) = false := by simp; omega
      have g22 : decide (22 ≤ (K : Int)) = true := decide_eq_true (by omega)
      have d25 : decide ((K : Int) ≤ 25) = false := decide_eq_false (by omega)
      have e27 : ((K : Int) == 27) = false := by simp; omega
      have g30 : decide (30 ≤ (K : Int)) = false := decide_eq_false (by omega)
      have d49 : decide ((K : Int) ≤ 49) = true := decide_eq_true (by omega)
      have g90 : decide (90 ≤ (K : Int)) = false := decide_eq_false (by omega)
      have d107 : decide ((K : Int) ≤ 107) = true := decide_eq_true (by omega)
      have HM := Lib.hid (show false = false → mute K from fun _ => by unfold mute; omega); clear h
      go_wp2_with fail
      go_meet
      exact ⟨_, rfl, Lib.hid (fun e => by first | exact HM.out trivial | cases e), rfl⟩
    · have d5 : decide ((K : Int) ≤ 5) = false := decide_eq_false (by omega)
      have e7 : ((K : Int) == 7) = false := by simp; omega
      have g22 : decide (22 ≤ (K : Int)) = true := decide_eq_true (by omega)
      have d25 : decide ((K : Int) ≤ 25) = false := decide_eq_false (by omega)
      have e27 : ((K : Int) == 27) = false := by simp; omega
      have g30 : decide (30 ≤ (K : Int)) = true := decide_eq_true (by omega)
      have d49 : decide ((K : Int) ≤ 49) = true := decide_eq_true (by omega)
      have g90 : decide (90 ≤ (K : Int)) = false := decide_eq_false (by omega)
      have d107 : decide ((K : Int) ≤ 107) = true := decide_eq_true (by omega)
      have HM := Lib.hid (show true = false → mute K from fun e => by cases e); clear h
      go_wp2_with fail
      go_meet
      exact ⟨_, rfl, Lib.hid (fun e => by first | exact HM.out trivial | cases e), rfl⟩
    · have d5 : decide ((K : Int) ≤ 5) = false := decide_eq_false (by omega)
      have e7 : ((K : Int) == 7) = false := by simp; omega
      have g22 : decide (22 ≤ (K : Int)) = true := decide_eq_true (by omega)
      have d25 : decide ((K : Int) ≤ 25) = false := decide_eq_false (by omega)
      have e27 : ((K : Int) == 27) = false := by simp; omega
      have g30 : decide (30 ≤ (K : Int)) = true := decide_eq_true (by omega)
      have d49 : decide ((K : Int) ≤ 49) = false := decide_eq_false (by omega)
      have g90 : decide (90 ≤ (K : Int)) = false := decide_eq_false (by omega)
      have d107 : decide ((K : Int) ≤ 107) = true := decide_eq_true (by omega)
      have HM := Lib.hid (show false = false → mute K from fun _ => by unfold mute; omega); clear h
      go_wp2_with fail
      go_meet
      exact ⟨_, rfl, Lib.hid (fun e => by first | exact HM.out trivial | cases e), rfl⟩
    · have d5 : decide ((K : Int) ≤ 5) = false := decide_eq_false (by omega)
      have e7 : ((K : Int) == 7) = false := by simp; omega
      have g22 : decide (22 ≤ (K : Int)) = true := decide_eq_true (by omega)
      have d25 : decide ((K : Int) ≤ 25) = false := decide_eq_false (by omega)
      have e27 : ((K : Int) == 27) = false := by simp; omega
      have g30 : decide (30 ≤ (K : Int)) = true := decide_eq_true (by omega)
      have d49 : decide ((K : Int) ≤ 49) = false := decide_eq_false (by omega)
      have g90 : decide (90 ≤ (K : Int)) = true := decide_eq_true (by omega)
      have d107 : decide ((K : Int) ≤ 107) = true := decide_eq_true (by omega)
      have HM := Lib.hid (show true = false → mute K from fun e => by cases e); clear h
      go_wp2_with fail
      go_meet
      exact ⟨_, rfl, Lib.hid (fun e => by first | exact HM.out trivial | cases e), rfl⟩
    · have d5 : decide ((K : Int) ≤ 5) = false := decide_eq_false (by omega)
      have e7 : ((K : Int) == 7) = false := by simp; omega
      have g22 : decide (22 ≤ (K : Int)) = true := decide_eq_true (by omega)
      have d25 : decide ((K : Int) ≤ 25) = false := decide_eq_false (by omega)
      have e27 : ((K : Int) == 27) = false := by simp; omega
      have g30 : decide (30 ≤ (K : Int)) = true := decide_eq_true (by omega)
      have d49 : decide ((K : Int) ≤ 49) = false := decide_eq_false (by omega)
      have g90 : decide (90 ≤ (K : Int)) = true := decide_eq_true (by omega)
      have d107 : decide ((K : Int) ≤ 107) = false := decide_eq_false (by omega)
      have HM := Lib.hid (show false = false → mute K from fun _ => by unfold mute; omega); clear h
      go_wp2_with fail
      go_meet
      exact ⟨_, rfl, Lib.hid (fun e => by first | exact HM.out trivial | cases e), rfl⟩
  case rest =>
  obtain ⟨S, rfl, HS, rfl⟩ := hcut
  have HA := Lib.hid (Apply_of ⟨cr, cf, cb, ca⟩ 4 109 0 0 1 K 0 0 0 0 0 0 0 wc (HW.out.ext H2.out.2.2.2))
  cases S with
  | false =>
    rw [pen_mute (HS.out rfl)] at HA
    have k0 : wc.cell? ⟨w.heap.size, 0, none⟩ = some (.int .i32 cr) := H2.out.2.1.cell 0
    have k1 : wc.cell? ⟨w.heap.size, 1, none⟩ = some (.int .u8 cf) := H2.out.2.1.cell 1
    have k2 : wc.cell? ⟨w.heap.size, 2, none⟩ = some (.int .u8 cb) := H2.out.2.1.cell 2
    have k3 : wc.cell? ⟨w.heap.size, 3, none⟩ = some (.int .u8 ca) := H2.out.2.1.cell 3
    go_wp2_with fail
    refine HA.out.mono ?_
    rintro e w3 ⟨rfl, hx⟩
    dsimp only [Cel.val]
    have hD : Blk (w3.alloc (.cells #[.int .i32 cr, .int .u8 cf, .int .u8 cb, .int .u8 ca] 23)) w3.heap.size 23 #[.int .i32 cr, .int .u8 cf, .int .u8 cb, .int .u8 ca] := Go.heap_alloc_new w3 _
    have hxx : Ext wc (w3.alloc (.cells #[.int .i32 cr, .int .u8 cf, .int .u8 cb, .int .u8 ca] 23)) := hx.alloc _
    have H4 := Lib.hid (And.intro (H2.out.2.1.ext hxx) (And.intro (H2.out.2.2.1.ext hxx) (And.intro (H2.out.2.2.2.trans hxx) hD))); clear hx hxx hD HA k0 k1 k2 k3
    go_upto_region 7 with (fail)
    try simp only [List.append]
    generalize w3.alloc (.cells #[.int .i32 cr, .int .u8 cf, .int .u8 cb, .int .u8 ca] 23) = W1 at H4 ⊢
    have ha := fun (U : World) (_ : Ext W1 U) => Apply_not ⟨cr, cf, cb, ca⟩ kd r p m' n n0 n1 n2 n3 n4 n5 n6 n7 U H2.out.1
    dsimp only [Cel.val] at ha
    have HA := Lib.hid ha; clear ha
    generalize w3.heap.size = D at H4 ⊢
    have y0 : ∀ n : In (Ext W1), n.val.cell? ⟨w.heap.size, 0, none⟩ = some (.int .i32 cr) := fun n => n.prop.cell (H4.out.1.cell 0)
    have y1 : ∀ n : In (Ext W1), n.val.cell? ⟨w.heap.size, 1, none⟩ = some (.int .u8 cf) := fun n => n.prop.cell (H4.out.1.cell 1)
    have y2 : ∀ n : In (Ext W1), n.val.cell? ⟨w.heap.size, 2, none⟩ = some (.int .u8 cb) := fun n => n.prop.cell (H4.out.1.cell 2)
    have y3 : ∀ n : In (Ext W1), n.val.cell? ⟨w.heap.size, 3, none⟩ = some (.int .u8 ca) := fun n => n.prop.cell (H4.out.1.cell 3)
    have z0 : ∀ q : In (Ext W1), q.val.cell? ⟨w.heap.size + 1, 0, none⟩ = some (.int .i64 kd) := fun q => q.prop.cell (H4.out.2.1.cell 0)
    have z1 : ∀ q : In (Ext W1), q.val.cell? ⟨w.heap.size + 1, 1, none⟩ = some (.int .i32 r) := fun q => q.prop.cell (H4.out.2.1.cell 1)
    have z2 : ∀ q : In (Ext W1), q.val.cell? ⟨w.heap.size + 1, 2, none⟩ = some (.int .u8 p) := fun q => q.prop.cell (H4.out.2.1.cell 2)
    have z3 : ∀ q : In (Ext W1), q.val.cell? ⟨w.heap.size + 1, 3, none⟩ = some (.int .u8 m') := fun q => q.prop.cell (H4.out.2.1.cell 3)
    have z4 : ∀ q : In (Ext W1), q.val.cell? ⟨w.heap.size + 1, 4, none⟩ = some (.int .i64 n) := fun q => q.prop.cell (H4.out.2.1.cell 4)
    have z5 : ∀ q : In (Ext W1), q.val.cell? ⟨w.heap.size + 1, 5, none⟩ = some (.int .i64 n0) := fun q => q.prop.cell (H4.out.2.1.cell 5)
    have z6 : ∀ q : In (Ext W1), q.val.cell? ⟨w.heap.size + 1, 6, none⟩ = some (.int .i64 n1) := fun q => q.prop.cell (H4.out.2.1.cell 6)
    have z7 : ∀ q : In (Ext W1), q.val.cell? ⟨w.heap.size + 1, 7, none⟩ = some (.int .i64 n2) := fun q => q.prop.cell (H4.out.2.1.cell 7)
    have z8 : ∀ q : In (Ext W1), q.val.cell? ⟨w.heap.size + 1, 8, none⟩ = some (.int .i64 n3) := fun q => q.prop.cell (H4.out.2.1.cell 8)
    have z9 : ∀ q : In (Ext W1), q.val.cell? ⟨w.heap.size + 1, 9, none⟩ = some (.int .i64 n4) := fun q => q.prop.cell (H4.out.2.1.cell 9)
    have z10 : ∀ q : In (Ext W1), q.val.cell? ⟨w.heap.size + 1, 10, none⟩ = some (.int .i64 n5) := fun q => q.prop.cell (H4.out.2.1.cell 10)
    have z11 : ∀ q : In (Ext W1), q.val.cell? ⟨w.heap.size + 1, 11, none⟩ = some (.int .i64 n6) := fun q => q.prop.cell (H4.out.2.1.cell 11)
    have z12 : ∀ q : In (Ext W1), q.val.cell? ⟨w.heap.size + 1, 12, none⟩ = some (.int .i64 n7) := fun q => q.prop.cell (H4.out.2.1.cell 12)
    have x0 : ∀ n : In (Ext W1), n.val.cell? ⟨D, 0, none⟩ = some (.int .i32 cr) := fun n => n.prop.cell (H4.out.2.2.2.cell 0)
    have x1 : ∀ n : In (Ext W1), n.val.cell? ⟨D, 1, none⟩ = some (.int .u8 cf) := fun n => n.prop.cell (H4.out.2.2.2.cell 1)
    have x2 : ∀ n : In (Ext W1), n.val.cell? ⟨D, 2, none⟩ = some (.int .u8 cb) := fun n => n.prop.cell (H4.out.2.2.2.cell 2)
    have x3 : ∀ n : In (Ext W1), n.val.cell? ⟨D, 3, none⟩ = some (.int .u8 ca) := fun n => n.prop.cell (H4.out.2.2.2.cell 3)
    have hE : celEq ⟨cr, cf, cb, ca⟩ ⟨cr, cf, cb, ca⟩ = true := celEq_true.2 rfl
    have hne : Nonempty (In (Ext W1)) := in_ext W1
    refine wp_region_class (Ext W1) (by kernel_rfl) (by kernel_rfl) (Ext.refl W1).drew ?_
    repeat (go_big_quiet_step (first
      | (go_at_call 11; exact quiet_ext HA.out _)))
    refine wpQuiet_nil ?_
    rintro _ ⟨q, rfl⟩
    have HN := Lib.hid (H4.out.2.2.1.trans q.prop)
    generalize q.val = w9 at HN ⊢
    go_wp2
    go_ret
    exact ⟨rfl, HN.out⟩
  | true =>
    generalize penP ⟨cr, cf, cb, ca⟩ 4 109 0 0 1 [(K : Int), 0, 0, 0, 0, 0, 0, 0] = Q at HA
    obtain ⟨qr, qf, qb, qa⟩ := Q
    have k0 : wc.cell? ⟨w.heap.size, 0, none⟩ = some (.int .i32 cr) := H2.out.2.1.cell 0
    have k1 : wc.cell? ⟨w.heap.size, 1, none⟩ = some (.int .u8 cf) := H2.out.2.1.cell 1
    have k2 : wc.cell? ⟨w.heap.size, 2, none⟩ = some (.int .u8 cb) := H2.out.2.1.cell 2
    have k3 : wc.cell? ⟨w.heap.size, 3, none⟩ = some (.int .u8 ca) := H2.out.2.1.cell 3
    go_wp2_with fail
    refine HA.out.mono ?_
    rintro e w3 ⟨rfl, hx⟩
    dsimp only [Cel.val]
    have hD : Blk (w3.alloc (.cells #[.int .i32 qr, .int .u8 qf, .int .u8 qb, .int .u8 qa] 23)) w3.heap.size 23 #[.int .i32 qr, .int .u8 qf, .int .u8 qb, .int .u8 qa] := Go.heap_alloc_new w3 _
    have hxx : Ext wc (w3.alloc (.cells #[.int .i32 qr, .int .u8 qf, .int .u8 qb, .int .u8 qa] 23)) := hx.alloc _
    have H4 := Lib.hid (And.intro (H2.out.2.1.ext hxx) (And.intro (H2.out.2.2.1.ext hxx) (And.intro (H2.out.2.2.2.trans hxx) hD))); clear hx hxx hD HA k0 k1 k2 k3
    go_upto_region 7 with (fail)
    try simp only [List.append]
    generalize w3.alloc (.cells #[.int .i32 qr, .int .u8 qf, .int .u8 qb, .int .u8 qa] 23) = W1 at H4 ⊢
    have ha := fun (U : World) (_ : Ext W1 U) => Apply_not ⟨cr, cf, cb, ca⟩ kd r p m' n n0 n1 n2 n3 n4 n5 n6 n7 U H2.out.1
    dsimp only [Cel.val] at ha
    have HA := Lib.hid ha; clear ha
    generalize w3.heap.size = D at H4 ⊢
    have y0 : ∀ n : In (Ext W1), n.val.cell? ⟨w.heap.size, 0, none⟩ = some (.int .i32 cr) := fun n => n.prop.cell (H4.out.1.cell 0)
    have y1 : ∀ n : In (Ext W1), n.val.cell? ⟨w.heap.size, 1, none⟩ = some (.int .u8 cf) := fun n => n.prop.cell (H4.out.1.cell 1)
    have y2 : ∀ n : In (Ext W1), n.val.cell? ⟨w.heap.size, 2, none⟩ = some (.int .u8 cb) := fun n => n.prop.cell (H4.out.1.cell 2)
    have y3 : ∀ n : In (Ext W1), n.val.cell? ⟨w.heap.size, 3, none⟩ = some (.int .u8 ca) := fun n => n.prop.cell (H4.out.1.cell 3)
    have z0 : ∀ q : In (Ext W1), q.val.cell? ⟨w.heap.size + 1, 0, none⟩ = some (.int .i64 kd) := fun q => q.prop.cell (H4.out.2.1.cell 0)
    have z1 : ∀ q : In (Ext W1), q.val.cell? ⟨w.heap.size + 1, 1, none⟩ = some (.int .i32 r) := fun q => q.prop.cell (H4.out.2.1.cell 1)
    have z2 : ∀ q : In (Ext W1), q.val.cell? ⟨w.heap.size + 1, 2, none⟩ = some (.int .u8 p) := fun q => q.prop.cell (H4.out.2.1.cell 2)
    have z3 : ∀ q : In (Ext W1), q.val.cell? ⟨w.heap.size + 1, 3, none⟩ = some (.int .u8 m') := fun q => q.prop.cell (H4.out.2.1.cell 3)
    have z4 : ∀ q : In (Ext W1), q.val.cell? ⟨w.heap.size + 1, 4, none⟩ = some (.int .i64 n) := fun q => q.prop.cell (H4.out.2.1.cell 4)
    have z5 : ∀ q : In (Ext W1), q.val.cell? ⟨w.heap.size + 1, 5, none⟩ = some (.int .i64 n0) := fun q => q.prop.cell (H4.out.2.1.cell 5)
    have z6 : ∀ q : In (Ext W1), q.val.cell? ⟨w.heap.size + 1, 6, none⟩ = some (.int .i64 n1) := fun q => q.prop.cell (H4.out.2.1.cell 6)
    have z7 : ∀ q : In (Ext W1), q.val.cell? ⟨w.heap.size + 1, 7, none⟩ = some (.int .i64 n2) := fun q => q.prop.cell (H4.out.2.1.cell 7)
    have z8 : ∀ q : In (Ext W1), q.val.cell? ⟨w.heap.size + 1, 8, none⟩ = some (.int .i64 n3) := fun q => q.prop.cell (H4.out.2.1.cell 8)
    have z9 : ∀ q : In (Ext W1), q.val.cell? ⟨w.heap.size + 1, 9, none⟩ = some (.int .i64 n4) := fun q => q.prop.cell (H4.out.2.1.cell 9)
    have z10 : ∀ q : In (Ext W1), q.val.cell? ⟨w.heap.size + 1, 10, none⟩ = some (.int .i64 n5) := fun q => q.prop.cell (H4.out.2.1.cell 10)
    have z11 : ∀ q : In (Ext W1), q.val.cell? ⟨w.heap.size + 1, 11, none⟩ = some (.int .i64 n6) := fun q => q.prop.cell (H4.out.2.1.cell 11)
    have z12 : ∀ q : In (Ext W1), q.val.cell? ⟨w.heap.size + 1, 12, none⟩ = some (.int .i64 n7) := fun q => q.prop.cell (H4.out.2.1.cell 12)
    have x0 : ∀ n : In (Ext W1), n.val.cell? ⟨D, 0, none⟩ = some (.int .i32 qr) := fun n => n.prop.cell (H4.out.2.2.2.cell 0)
    have x1 : ∀ n : In (Ext W1), n.val.cell? ⟨D, 1, none⟩ = some (.int .u8 qf) := fun n => n.prop.cell (H4.out.2.2.2.cell 1)
    have x2 : ∀ n : In (Ext W1), n.val.cell? ⟨D, 2, none⟩ = some (.int .u8 qb) := fun n => n.prop.cell (H4.out.2.2.2.cell 2)
    have x3 : ∀ n : In (Ext W1), n.val.cell? ⟨D, 3, none⟩ = some (.int .u8 qa) := fun n => n.prop.cell (H4.out.2.2.2.cell 3)
    have hE : celEq ⟨cr, cf, cb, ca⟩ ⟨cr, cf, cb, ca⟩ = true := celEq_true.2 rfl
    have hne : Nonempty (In (Ext W1)) := in_ext W1
    refine wp_region_class (Ext W1) (by kernel_rfl) (by kernel_rfl) (Ext.refl W1).drew ?_
    repeat (go_big_quiet_step (first
      | (go_at_call 11; exact quiet_ext HA.out _)))
    refine wpQuiet_nil ?_
    rintro _ ⟨q, rfl⟩
    have HN := Lib.hid (H4.out.2.2.1.trans q.prop)
    generalize q.val = w9 at HN ⊢
    go_wp2
    go_ret
    exact ⟨rfl, HN.out⟩
end Go.Proofs.YtgnknliaeoblhabDoor
