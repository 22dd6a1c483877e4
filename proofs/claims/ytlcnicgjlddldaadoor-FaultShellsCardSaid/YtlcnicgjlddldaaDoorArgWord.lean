/- An argument that is a word and a code, opened; it reads behind the call as it did. -/
import Derived.Test.YtlcnicgjlddldaaDoorScript
namespace Go.Proofs.YtlcnicgjlddldaaDoor
open Go Go.ChangeShapes Go.WideShapes Go.ChangeAt Go.RowKit Go.Deep

theorem cellsWord : Tryd.prog.cellsOf 46 = 2 := by kernel_rfl
theorem cellsStr : Tryd.prog.cellsOf 9 = 1 := by kernel_rfl
theorem cellsErrno : Tryd.prog.cellsOf 35 = 1 := by kernel_rfl
theorem readWord : Tryd.prog.readableRec 46 = true := by kernel_rfl
set_option maxRecDepth 100000 in
theorem word_of {H : Type} {enc : TypeId × Value → H} {W : World} {r : Reach} {b0 : Nat} {v : Value} {d : DataW H} {p : List MemPlace} (hv : Value.okWide Tryd.prog W r b0 46 v) (h : DataW.Trod enc Tryd.prog W 0 (fun _ => true) true 46 v d p) :
    ∃ (s : ByteArray) (n : Int), v = .agg #[.string s, .int .i64 n] ∧ (Lit.int .i64 n).wf = true ∧ s.size ≤ maxLen := by
  unfold Value.okWide at hv
  rw [Tryd.underlying46] at hv
  obtain ⟨cs, rfl, hz, _⟩ := hv
  rw [cellsWord] at hz
  obtain ⟨n, hn⟩ := h
  cases n with
  | zero => simp [DataW.trod] at hn
  | succ n =>
    unfold DataW.trod at hn
    rw [Tryd.underlying46] at hn
    obtain ⟨l, rfl⟩ : ∃ l : List Value, cs = l.toArray := ⟨cs.toList, by simp⟩
    match l, hz with
    | [a, b], _ =>
      simp only [Value.cells, cellsStr, cellsErrno, List.mapM_cons, List.mapM_nil, Option.bind_eq_bind] at hn
      rw [if_pos (by rw [cellsWord]; rfl), Option.map_eq_some_iff] at hn
      obtain ⟨xs, hxs, _⟩ := hn
      simp only [Option.bind_eq_some_iff] at hxs
      obtain ⟨x0, t0, y0, ⟨x1, t1, _⟩, _⟩ := hxs
      obtain ⟨s0, e0, _, w0⟩ := DataW.trod_string Tryd.underlying9 t0
      obtain ⟨n1, e1, _, w1⟩ := DataW.trod_int Tryd.underlying35 t1
      have f0 : a = .string s0 := List.cons.inj e0 |>.1
      have f1 : b = .int .i64 n1 := List.cons.inj e1 |>.1
      subst f0 f1
      exact ⟨s0, n1, rfl, w1, w0⟩
set_option maxRecDepth 100000 in
theorem word_stays {H : Type} {enc : TypeId × Value → H} {W W' : World} {sp : Nat → Bool} {v : Value} {d : DataW H} {p : List MemPlace} (h : DataW.Trod enc Tryd.prog W 0 (fun _ => true) true 46 v d p) (hx : Ext W W') (hlt : ∀ q ∈ p, q.block < W.heap.size) (hsp : ∀ q ∈ p, sp q.block = true) :
    DataW.Trod enc Tryd.prog W' 0 sp true 46 v d p :=
  Go.WideElems.Trod_stays laidOut readWord (by rw [typesSize]; decide) h (fun q hq => ext_same hx (hlt q hq)) hsp
end Go.Proofs.YtlcnicgjlddldaaDoor
