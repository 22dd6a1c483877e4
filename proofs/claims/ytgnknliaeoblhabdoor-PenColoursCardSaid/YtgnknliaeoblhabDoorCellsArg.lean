/- Arguments that are rows of cells, or a cell, opened; they read behind the call as they did. -/
import Derived.Test.YtgnknliaeoblhabDoorCelRow
import Derived.Test.YtgnknliaeoblhabDoorRunesArg
import Derived.Test.YtgnknliaeoblhabDoorFieldsArg
namespace Go.Proofs.YtgnknliaeoblhabDoor
open Go Go.ChangeShapes Go.WideShapes Go.ChangeAt Go.RowKit Go.Deep

theorem wf_u8c {n : Int} (h : (Lit.int .u8 n).wf = true) : isU8 n := by
  have h' : (decide (IntKind.u8.min ≤ n) && decide (n ≤ IntKind.u8.max)) = true := h
  have e1 : IntKind.u8.min = 0 := by decide
  have e2 : IntKind.u8.max = 255 := by decide
  rw [e1, e2] at h'
  simp at h'
  unfold isU8
  omega
theorem oneCel : oneCellFields Tryd.prog #[{ name := "R", type := 21, offset := 0, embedded := false, tag := "", pkgPath := "", byteOffset := 0 }, { name := "Fg", type := 5, offset := 1, embedded := false, tag := "", pkgPath := "", byteOffset := 4 }, { name := "Bg", type := 5, offset := 2, embedded := false, tag := "", pkgPath := "", byteOffset := 5 }, { name := "Attr", type := 5, offset := 3, embedded := false, tag := "", pkgPath := "", byteOffset := 6 }] = true := by kernel_rfl
theorem cellsCel : Tryd.prog.cellsOf 23 = 4 := by kernel_rfl
theorem cellsU8c : Tryd.prog.cellsOf 5 = 1 := by kernel_rfl
theorem readCel : Tryd.prog.readableRec 23 = true := by kernel_rfl
set_option maxRecDepth 100000 in
theorem cell_of {H : Type} {enc : TypeId × Value → H} {W : World} {r : Reach} {b0 : Nat} {v : Value} {d : DataW H} {p : List MemPlace} (hv : Value.okWide Tryd.prog W r b0 23 v) (h : DataW.Trod enc Tryd.prog W 0 (fun _ => true) true 23 v d p) :
    ∃ c : Cel, v = c.val ∧ c.ok := by
  unfold Value.okWide at hv
  rw [Tryd.underlying23] at hv
  obtain ⟨cs, rfl, hz, _⟩ := hv
  rw [cellsCel] at hz
  obtain ⟨n, hn⟩ := h
  cases n with
  | zero => simp [DataW.trod] at hn
  | succ n =>
    unfold DataW.trod at hn
    rw [Tryd.underlying23] at hn
    obtain ⟨l, rfl⟩ : ∃ l : List Value, cs = l.toArray := ⟨cs.toList, by simp⟩
    match l, hz with
    | [a, b, c, e], _ =>
      simp only [Value.cells, cellsU8c, cellsI32, List.mapM_cons, List.mapM_nil, Option.bind_eq_bind] at hn
      rw [if_pos (by rw [cellsCel]; rfl), Option.map_eq_some_iff] at hn
      obtain ⟨xs, hxs, _⟩ := hn
      simp only [Option.bind_eq_some_iff] at hxs
      obtain ⟨x0, t0, y0, ⟨x1, t1, y1, ⟨x2, t2, y2, ⟨x3, t3, _⟩, _⟩, _⟩, _⟩ := hxs
      obtain ⟨n0, e0, _, w0⟩ := DataW.trod_int Tryd.underlying21 t0
      obtain ⟨n1, e1, _, w1⟩ := DataW.trod_int Tryd.underlying5 t1
      obtain ⟨n2, e2, _, w2⟩ := DataW.trod_int Tryd.underlying5 t2
      obtain ⟨n3, e3, _, w3⟩ := DataW.trod_int Tryd.underlying5 t3
      have f0 : a = .int .i32 n0 := List.cons.inj e0 |>.1
      have f1 : b = .int .u8 n1 := List.cons.inj e1 |>.1
      have f2 : c = .int .u8 n2 := List.cons.inj e2 |>.1
      have f3 : e = .int .u8 n3 := List.cons.inj e3 |>.1
      subst f0 f1 f2 f3
      exact ⟨⟨n0, n1, n2, n3⟩, rfl, wf_i32 w0, wf_u8c w1, wf_u8c w2, wf_u8c w3⟩
theorem cell_stays {H : Type} {enc : TypeId × Value → H} {W W' : World} {sp : Nat → Bool} {v : Value} {d : DataW H} {p : List MemPlace} (h : DataW.Trod enc Tryd.prog W 0 (fun _ => true) true 23 v d p) (hx : Ext W W') (hlt : ∀ q ∈ p, q.block < W.heap.size) (hsp : ∀ q ∈ p, sp q.block = true) :
    DataW.Trod enc Tryd.prog W' 0 sp true 23 v d p :=
  Go.WideElems.Trod_stays laidOutN readCel (by rw [typesSizeN]; decide) h (fun q hq => ext_sameN hx (hlt q hq)) hsp
end Go.Proofs.YtgnknliaeoblhabDoor
