/- Arguments that are a cell in a place, opened; they read behind the call as they did. -/
import Derived.Test.YtckdchkegbdiaaaDoorCellsArg
import Derived.Test.YtckdchkegbdiaaaDoorIntsArg
namespace Go.Proofs.YtckdchkegbdiaaaDoor
open Go Go.ChangeShapes Go.WideShapes Go.ChangeAt Go.RowKit Go.Deep

theorem cellsTurn : Tryd.prog.cellsOf 27 = 6 := by kernel_rfl
theorem readTurn : Tryd.prog.readableRec 27 = true := by kernel_rfl
set_option maxRecDepth 100000 in
theorem turn_of {H : Type} {enc : TypeId × Value → H} {W : World} {r : Reach} {b0 : Nat} {v : Value} {d : DataW H} {p : List MemPlace} (hv : Value.okWide Tryd.prog W r b0 27 v) (h : DataW.Trod enc Tryd.prog W 0 (fun _ => true) true 27 v d p) :
    ∃ (n : Int) (c : Cel) (m : Int), v = .agg #[.int .i64 n, .int .i32 c.r, .int .u8 c.f, .int .u8 c.b, .int .u8 c.a, .int .i32 m] ∧ isI64 n ∧ c.ok ∧ isI32 m := by
  unfold Value.okWide at hv
  rw [Tryd.underlying27] at hv
  obtain ⟨cs, rfl, hz, _⟩ := hv
  rw [cellsTurn] at hz
  obtain ⟨n, hn⟩ := h
  cases n with
  | zero => simp [DataW.trod] at hn
  | succ n =>
    unfold DataW.trod at hn
    rw [Tryd.underlying27] at hn
    obtain ⟨l, rfl⟩ : ∃ l : List Value, cs = l.toArray := ⟨cs.toList, by simp⟩
    match l, hz with
    | [a, b, c, e, f, g], _ =>
      simp only [Value.cells, cellsInt, cellsCel, cellsI32, List.mapM_cons, List.mapM_nil, Option.bind_eq_bind] at hn
      rw [if_pos (by rw [cellsTurn]; rfl), Option.map_eq_some_iff] at hn
      obtain ⟨xs, hxs, _⟩ := hn
      simp only [Option.bind_eq_some_iff] at hxs
      obtain ⟨x0, t0, y0, ⟨x1, t1, y1, ⟨x2, t2, _⟩, _⟩, _⟩ := hxs
      obtain ⟨n0, e0, _, w0⟩ := DataW.trod_int Tryd.underlying3 t0
      obtain ⟨n5, e5, _, w5⟩ := DataW.trod_int Tryd.underlying21 t2
      cases n with
      | zero => simp [DataW.trod] at t1
      | succ n =>
        unfold DataW.trod at t1
        rw [Tryd.underlying25] at t1
        simp only [cellsU8c, cellsI32, List.mapM_cons, List.mapM_nil, Option.bind_eq_bind] at t1
        rw [if_pos (by rw [cellsCel]; rfl), Option.map_eq_some_iff] at t1
        obtain ⟨xs1, hxs1, _⟩ := t1
        simp only [Option.bind_eq_some_iff] at hxs1
        obtain ⟨_, u0, _, ⟨_, u1, _, ⟨_, u2, _, ⟨_, u3, _⟩, _⟩, _⟩, _⟩ := hxs1
        obtain ⟨n1, e1, _, w1⟩ := DataW.trod_int Tryd.underlying21 u0
        obtain ⟨n2, e2, _, w2⟩ := DataW.trod_int Tryd.underlying5 u1
        obtain ⟨n3, e3, _, w3⟩ := DataW.trod_int Tryd.underlying5 u2
        obtain ⟨n4, e4, _, w4⟩ := DataW.trod_int Tryd.underlying5 u3
        have f0 : a = .int .i64 n0 := List.cons.inj e0 |>.1
        have f1 : b = .int .i32 n1 := List.cons.inj e1 |>.1
        have f2 : c = .int .u8 n2 := List.cons.inj e2 |>.1
        have f3 : e = .int .u8 n3 := List.cons.inj e3 |>.1
        have f4 : f = .int .u8 n4 := List.cons.inj e4 |>.1
        have f5 : g = .int .i32 n5 := List.cons.inj e5 |>.1
        subst f0 f1 f2 f3 f4 f5
        exact ⟨n0, ⟨n1, n2, n3, n4⟩, n5, rfl, wf_i64 w0, ⟨wf_i32 w1, wf_u8c w2, wf_u8c w3, wf_u8c w4⟩, wf_i32 w5⟩
theorem turn_stays {H : Type} {enc : TypeId × Value → H} {W W' : World} {sp : Nat → Bool} {v : Value} {d : DataW H} {p : List MemPlace} (h : DataW.Trod enc Tryd.prog W 0 (fun _ => true) true 27 v d p) (hx : Ext W W') (hlt : ∀ q ∈ p, q.block < W.heap.size) (hsp : ∀ q ∈ p, sp q.block = true) :
    DataW.Trod enc Tryd.prog W' 0 sp true 27 v d p :=
  Go.WideElems.Trod_stays laidOutN readTurn (by rw [typesSizeN]; decide) h (fun q hq => ext_sameN hx (hlt q hq)) hsp
theorem cellsQuad : Tryd.prog.cellsOf 37 = 4 := by kernel_rfl
theorem readQuad : Tryd.prog.readableRec 37 = true := by kernel_rfl
set_option maxRecDepth 100000 in
theorem quad_of {H : Type} {enc : TypeId × Value → H} {W : World} {r : Reach} {b0 : Nat} {v : Value} {d : DataW H} {p : List MemPlace} (hv : Value.okWide Tryd.prog W r b0 37 v) (h : DataW.Trod enc Tryd.prog W 0 (fun _ => true) true 37 v d p) :
    ∃ a b c e : Int, v = .agg #[.int .i64 a, .int .i64 b, .int .i64 c, .int .i64 e] ∧ isI64 a ∧ isI64 b ∧ isI64 c ∧ isI64 e := by
  unfold Value.okWide at hv
  rw [Tryd.underlying37] at hv
  obtain ⟨cs, rfl, hz, _⟩ := hv
  rw [cellsQuad] at hz
  obtain ⟨n, hn⟩ := h
  cases n with
  | zero => simp [DataW.trod] at hn
  | succ n =>
    unfold DataW.trod at hn
    rw [Tryd.underlying37] at hn
    obtain ⟨l, rfl⟩ : ∃ l : List Value, cs = l.toArray := ⟨cs.toList, by simp⟩
    match l, hz with
    | [a, b, c, e], _ =>
      simp only [Value.cells, cellsInt] at hn
      rw [if_pos (by rw [cellsQuad]; rfl), Option.map_eq_some_iff] at hn
      obtain ⟨xs, hxs, _⟩ := hn
      rw [show List.range 4 = [0, 1, 2, 3] from rfl] at hxs
      simp only [List.mapM_cons, List.mapM_nil, Option.bind_eq_bind, Option.bind_eq_some_iff] at hxs
      obtain ⟨x0, t0, y0, ⟨x1, t1, y1, ⟨x2, t2, y2, ⟨x3, t3, _⟩, _⟩, _⟩, _⟩ := hxs
      obtain ⟨n0, e0, _, w0⟩ := DataW.trod_int Tryd.underlying3 t0
      obtain ⟨n1, e1, _, w1⟩ := DataW.trod_int Tryd.underlying3 t1
      obtain ⟨n2, e2, _, w2⟩ := DataW.trod_int Tryd.underlying3 t2
      obtain ⟨n3, e3, _, w3⟩ := DataW.trod_int Tryd.underlying3 t3
      have f0 : a = .int .i64 n0 := List.cons.inj e0 |>.1
      have f1 : b = .int .i64 n1 := List.cons.inj e1 |>.1
      have f2 : c = .int .i64 n2 := List.cons.inj e2 |>.1
      have f3 : e = .int .i64 n3 := List.cons.inj e3 |>.1
      subst f0 f1 f2 f3
      exact ⟨n0, n1, n2, n3, rfl, wf_i64 w0, wf_i64 w1, wf_i64 w2, wf_i64 w3⟩
theorem quad_stays {H : Type} {enc : TypeId × Value → H} {W W' : World} {sp : Nat → Bool} {v : Value} {d : DataW H} {p : List MemPlace} (h : DataW.Trod enc Tryd.prog W 0 (fun _ => true) true 37 v d p) (hx : Ext W W') (hlt : ∀ q ∈ p, q.block < W.heap.size) (hsp : ∀ q ∈ p, sp q.block = true) :
    DataW.Trod enc Tryd.prog W' 0 sp true 37 v d p :=
  Go.WideElems.Trod_stays laidOutN readQuad (by rw [typesSizeN]; decide) h (fun q hq => ext_sameN hx (hlt q hq)) hsp
end Go.Proofs.YtckdchkegbdiaaaDoor
