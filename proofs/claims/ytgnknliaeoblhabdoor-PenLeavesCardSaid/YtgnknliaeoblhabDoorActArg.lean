/- Arguments that are an act, or three numbers, opened; they read behind the call as they did. -/
import Derived.Test.YtgnknliaeoblhabDoorCellsArg
import Derived.Test.YtgnknliaeoblhabDoorIntsArg
namespace Go.Proofs.YtgnknliaeoblhabDoor
open Go Go.ChangeShapes Go.WideShapes Go.ChangeAt Go.RowKit Go.Deep

theorem cellsAct : Tryd.prog.cellsOf 28 = 13 := by kernel_rfl
theorem cellsNums8 : Tryd.prog.cellsOf 26 = 8 := by kernel_rfl
theorem readAct : Tryd.prog.readableRec 28 = true := by kernel_rfl
set_option maxRecDepth 100000 in
theorem act_arg {H : Type} {enc : TypeId × Value → H} {W : World} {r : Reach} {b0 : Nat} {v : Value} {d : DataW H} {p : List MemPlace} (hv : Value.okWide Tryd.prog W r b0 28 v) (h : DataW.Trod enc Tryd.prog W 0 (fun _ => true) true 28 v d p) :
    ∃ k r p m n n0 n1 n2 n3 n4 n5 n6 n7 : Int, v = .agg #[.int .i64 k, .int .i32 r, .int .u8 p, .int .u8 m, .int .i64 n, .int .i64 n0, .int .i64 n1, .int .i64 n2, .int .i64 n3, .int .i64 n4, .int .i64 n5, .int .i64 n6, .int .i64 n7] ∧ (isI64 k ∧ isI32 r ∧ isU8 p ∧ isU8 m ∧ isI64 n) := by
  unfold Value.okWide at hv
  rw [Tryd.underlying28] at hv
  obtain ⟨cs, rfl, hz, _⟩ := hv
  rw [cellsAct] at hz
  obtain ⟨n, hn⟩ := h
  cases n with
  | zero => simp [DataW.trod] at hn
  | succ n =>
    unfold DataW.trod at hn
    rw [Tryd.underlying28] at hn
    obtain ⟨l, rfl⟩ : ∃ l : List Value, cs = l.toArray := ⟨cs.toList, by simp⟩
    match l, hz with
    | [a, b, c, e, f, g0, g1, g2, g3, g4, g5, g6, g7], _ =>
      simp only [Value.cells, cellsInt, cellsU8c, cellsI32, cellsNums8, List.mapM_cons, List.mapM_nil, Option.bind_eq_bind] at hn
      rw [if_pos (by rw [cellsAct]; rfl), Option.map_eq_some_iff] at hn
      obtain ⟨xs, hxs, _⟩ := hn
      simp only [Option.bind_eq_some_iff] at hxs
      obtain ⟨_, t0, _, ⟨_, t1, _, ⟨_, t2, _, ⟨_, t3, _, ⟨_, t4, _, ⟨_, t5, _⟩, _⟩, _⟩, _⟩, _⟩, _⟩ := hxs
      obtain ⟨n0, e0, _, w0⟩ := DataW.trod_int Tryd.underlying3 t0
      obtain ⟨n1, e1, _, w1⟩ := DataW.trod_int Tryd.underlying21 t1
      obtain ⟨n2, e2, _, w2⟩ := DataW.trod_int Tryd.underlying5 t2
      obtain ⟨n3, e3, _, w3⟩ := DataW.trod_int Tryd.underlying5 t3
      obtain ⟨n4, e4, _, w4⟩ := DataW.trod_int Tryd.underlying3 t4
      have f0 : a = .int .i64 n0 := List.cons.inj e0 |>.1
      have f1 : b = .int .i32 n1 := List.cons.inj e1 |>.1
      have f2 : c = .int .u8 n2 := List.cons.inj e2 |>.1
      have f3 : e = .int .u8 n3 := List.cons.inj e3 |>.1
      have f4 : f = .int .i64 n4 := List.cons.inj e4 |>.1
      subst f0 f1 f2 f3 f4
      cases n with
      | zero => simp [DataW.trod] at t5
      | succ n =>
        unfold DataW.trod at t5
        rw [Tryd.underlying26] at t5
        simp only [cellsInt] at t5
        rw [if_pos (by rw [cellsNums8]; rfl), Option.map_eq_some_iff] at t5
        obtain ⟨xs1, hxs1, _⟩ := t5
        rw [show List.range 8 = [0, 1, 2, 3, 4, 5, 6, 7] from rfl] at hxs1
        simp only [List.mapM_cons, List.mapM_nil, Option.bind_eq_bind, Option.bind_eq_some_iff] at hxs1
        obtain ⟨_, u0, _, ⟨_, u1, _, ⟨_, u2, _, ⟨_, u3, _, ⟨_, u4, _, ⟨_, u5, _, ⟨_, u6, _, ⟨_, u7, _⟩, _⟩, _⟩, _⟩, _⟩, _⟩, _⟩, _⟩ := hxs1
        obtain ⟨m0, k0, _, _⟩ := DataW.trod_int Tryd.underlying3 u0
        obtain ⟨m1, k1, _, _⟩ := DataW.trod_int Tryd.underlying3 u1
        obtain ⟨m2, k2, _, _⟩ := DataW.trod_int Tryd.underlying3 u2
        obtain ⟨m3, k3, _, _⟩ := DataW.trod_int Tryd.underlying3 u3
        obtain ⟨m4, k4, _, _⟩ := DataW.trod_int Tryd.underlying3 u4
        obtain ⟨m5, k5, _, _⟩ := DataW.trod_int Tryd.underlying3 u5
        obtain ⟨m6, k6, _, _⟩ := DataW.trod_int Tryd.underlying3 u6
        obtain ⟨m7, k7, _, _⟩ := DataW.trod_int Tryd.underlying3 u7
        have q0 : g0 = .int .i64 m0 := List.cons.inj k0 |>.1
        have q1 : g1 = .int .i64 m1 := List.cons.inj k1 |>.1
        have q2 : g2 = .int .i64 m2 := List.cons.inj k2 |>.1
        have q3 : g3 = .int .i64 m3 := List.cons.inj k3 |>.1
        have q4 : g4 = .int .i64 m4 := List.cons.inj k4 |>.1
        have q5 : g5 = .int .i64 m5 := List.cons.inj k5 |>.1
        have q6 : g6 = .int .i64 m6 := List.cons.inj k6 |>.1
        have q7 : g7 = .int .i64 m7 := List.cons.inj k7 |>.1
        subst q0 q1 q2 q3 q4 q5 q6 q7
        exact ⟨n0, n1, n2, n3, n4, m0, m1, m2, m3, m4, m5, m6, m7, rfl, wf_i64 w0, wf_i32 w1, wf_u8c w2, wf_u8c w3, wf_i64 w4⟩
theorem act_stays {H : Type} {enc : TypeId × Value → H} {W W' : World} {sp : Nat → Bool} {v : Value} {d : DataW H} {p : List MemPlace} (h : DataW.Trod enc Tryd.prog W 0 (fun _ => true) true 28 v d p) (hx : Ext W W') (hlt : ∀ q ∈ p, q.block < W.heap.size) (hsp : ∀ q ∈ p, sp q.block = true) :
    DataW.Trod enc Tryd.prog W' 0 sp true 28 v d p :=
  Go.WideElems.Trod_stays laidOutN readAct (by rw [typesSizeN]; decide) h (fun q hq => ext_sameN hx (hlt q hq)) hsp
theorem cellsThree : Tryd.prog.cellsOf 43 = 3 := by kernel_rfl
theorem readThree : Tryd.prog.readableRec 43 = true := by kernel_rfl
set_option maxRecDepth 100000 in
theorem three_of {H : Type} {enc : TypeId × Value → H} {W : World} {r : Reach} {b0 : Nat} {v : Value} {d : DataW H} {p : List MemPlace} (hv : Value.okWide Tryd.prog W r b0 43 v) (h : DataW.Trod enc Tryd.prog W 0 (fun _ => true) true 43 v d p) :
    ∃ a b c : Int, v = .agg #[.int .i64 a, .int .i64 b, .int .i64 c] ∧ isI64 a ∧ isI64 b ∧ isI64 c := by
  unfold Value.okWide at hv
  rw [Tryd.underlying43] at hv
  obtain ⟨cs, rfl, hz, _⟩ := hv
  rw [cellsThree] at hz
  obtain ⟨n, hn⟩ := h
  cases n with
  | zero => simp [DataW.trod] at hn
  | succ n =>
    unfold DataW.trod at hn
    rw [Tryd.underlying43] at hn
    obtain ⟨l, rfl⟩ : ∃ l : List Value, cs = l.toArray := ⟨cs.toList, by simp⟩
    match l, hz with
    | [a, b, c], _ =>
      simp only [Value.cells, cellsInt] at hn
      rw [if_pos (by rw [cellsThree]; rfl), Option.map_eq_some_iff] at hn
      obtain ⟨xs, hxs, _⟩ := hn
      rw [show List.range 3 = [0, 1, 2] from rfl] at hxs
      simp only [List.mapM_cons, List.mapM_nil, Option.bind_eq_bind, Option.bind_eq_some_iff] at hxs
      obtain ⟨_, t0, _, ⟨_, t1, _, ⟨_, t2, _⟩, _⟩, _⟩ := hxs
      obtain ⟨n0, e0, _, w0⟩ := DataW.trod_int Tryd.underlying3 t0
      obtain ⟨n1, e1, _, w1⟩ := DataW.trod_int Tryd.underlying3 t1
      obtain ⟨n2, e2, _, w2⟩ := DataW.trod_int Tryd.underlying3 t2
      have f0 : a = .int .i64 n0 := List.cons.inj e0 |>.1
      have f1 : b = .int .i64 n1 := List.cons.inj e1 |>.1
      have f2 : c = .int .i64 n2 := List.cons.inj e2 |>.1
      subst f0 f1 f2
      exact ⟨n0, n1, n2, rfl, wf_i64 w0, wf_i64 w1, wf_i64 w2⟩
theorem three_stays {H : Type} {enc : TypeId × Value → H} {W W' : World} {sp : Nat → Bool} {v : Value} {d : DataW H} {p : List MemPlace} (h : DataW.Trod enc Tryd.prog W 0 (fun _ => true) true 43 v d p) (hx : Ext W W') (hlt : ∀ q ∈ p, q.block < W.heap.size) (hsp : ∀ q ∈ p, sp q.block = true) :
    DataW.Trod enc Tryd.prog W' 0 sp true 43 v d p :=
  Go.WideElems.Trod_stays laidOutN readThree (by rw [typesSizeN]; decide) h (fun q hq => ext_sameN hx (hlt q hq)) hsp
end Go.Proofs.YtgnknliaeoblhabDoor
