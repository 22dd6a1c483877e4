/- Arguments that are rows of cells, or a cell, opened; they read behind the call as they did. -/
import Derived.Test.YtckdchkegbdiaaaDoorCelRow
import Derived.Test.YtckdchkegbdiaaaDoorRunesArg
import Derived.Test.YtckdchkegbdiaaaDoorFieldsArg
namespace Go.Proofs.YtckdchkegbdiaaaDoor
open Go Go.ChangeShapes Go.WideShapes Go.ChangeAt Go.RowKit Go.Deep

theorem wf_u8c {n : Int} (h : (Lit.int .u8 n).wf = true) : isU8 n := by
  have h' : (decide (IntKind.u8.min ≤ n) && decide (n ≤ IntKind.u8.max)) = true := h
  have e1 : IntKind.u8.min = 0 := by decide
  have e2 : IntKind.u8.max = 255 := by decide
  rw [e1, e2] at h'
  simp at h'
  unfold isU8
  omega
theorem oneCel : oneCellFields Tryd.prog #[{ name := "R", type := 21, offset := 0, embedded := false, tag := "", pkgPath := "", byteOffset := 0 }, { name := "Fg", type := 5, offset := 1, embedded := false, tag := "", pkgPath := "", byteOffset := 4 }, { name := "Bg", type := 5, offset := 2, embedded := false, tag := "", pkgPath := "", byteOffset := 5 }, { name := "Attr", type := 5, offset := 3, embedded := false, tag := "", pkgPath := "", byteOffset := 6 }] = true := by kernel_rfl
theorem cellsCel : Tryd.prog.cellsOf 25 = 4 := by kernel_rfl
theorem cellsU8c : Tryd.prog.cellsOf 5 = 1 := by kernel_rfl
theorem readCells : Tryd.prog.readableRec 22 = true := by kernel_rfl
theorem readCel : Tryd.prog.readableRec 25 = true := by kernel_rfl
set_option maxRecDepth 100000 in
theorem cells_of {H : Type} {enc : TypeId × Value → H} {W : World} {r : Reach} {b0 : Nat} {v : Value} {d : DataW H} {p : List MemPlace} (hv : Value.okWide Tryd.prog W r b0 22 v) (h : DataW.Trod enc Tryd.prog W 0 (fun _ => true) true 22 v d p) : ∃ l, IsCells W v l ∧ l.length ≤ maxLen := by
  obtain ⟨a, len, cap, rfl⟩ := okWide_slice Tryd.underlying22 hv
  obtain ⟨n, hn⟩ := h
  rcases open_slice_fields Tryd.underlying22 Tryd.underlying25 oneCel cellsCel hn with ⟨hcs, _⟩ | ⟨ad, len', cap', m, D, Pl, hcs, hb, hl, hm, hmm, hx, hf⟩
  · have e : Value.slice a len cap = .slice none 0 0 := by simpa [Value.cells] using hcs
    injection e with e1 e2 e3
    subst e1 e2 e3
    exact ⟨[], ⟨none, 0, rfl, ⟨Nat.le_refl _, fun _ => rfl⟩, fun i k h => by cases h⟩, Nat.zero_le _⟩
  · have e : Value.slice a len cap = .slice (some ad) len' cap' := by simpa [Value.cells] using hcs
    injection e with e1 e2 e3
    subst e1 e2 e3
    have hmc : m = cap := hmm
    rcases Nat.eq_zero_or_pos len with h0 | hp
    · subst h0
      exact ⟨[], ⟨_, _, rfl, ⟨Nat.zero_le _, fun e => by cases e⟩, fun i k h => by cases h⟩, Nat.zero_le _⟩
    · obtain ⟨g, off, spot⟩ := ad
      have hsp : spot = none := by
        obtain ⟨ys, k, _, _, _, hj⟩ := hf 0 (by omega)
        obtain ⟨v0, y0, hc, _, _⟩ := hj 0 _ rfl
        replace hc : W.cell? (⟨g, off, spot⟩ : Addr) = some v0 := hc
        cases spot with
        | none => rfl
        | some s =>
          unfold World.cell? at hc
          simp at hc
          split at hc <;> simp at hc
      subst hsp
      have key : ∀ k, k ≤ len → ∃ cs : List Cel, cs.length = k ∧ ∀ i c, cs[i]? = some c → c.ok ∧ CelAt W g (off + i * 4) c := by
        intro k
        induction k with
        | zero => exact fun _ => ⟨[], rfl, fun i o h => by cases h⟩
        | succ k ih =>
          intro hk
          obtain ⟨cs, hcs, hst⟩ := ih (by omega)
          obtain ⟨ys, f, _, _, _, hj⟩ := hf k (by omega)
          obtain ⟨v0, y0, hc0, _, ht0⟩ := hj 0 _ rfl
          obtain ⟨v1, y1, hc1, _, ht1⟩ := hj 1 _ rfl
          obtain ⟨v2, y2, hc2, _, ht2⟩ := hj 2 _ rfl
          obtain ⟨v3, y3, hc3, _, ht3⟩ := hj 3 _ rfl
          obtain ⟨n0, e0, _, w0⟩ := DataW.trod_int Tryd.underlying21 ht0
          obtain ⟨n1, e1, _, w1⟩ := DataW.trod_int Tryd.underlying5 ht1
          obtain ⟨n2, e2, _, w2⟩ := DataW.trod_int Tryd.underlying5 ht2
          obtain ⟨n3, e3, _, w3⟩ := DataW.trod_int Tryd.underlying5 ht3
          injection e0 with e0 _
          injection e1 with e1 _
          injection e2 with e2 _
          injection e3 with e3 _
          subst e0 e1 e2 e3
          refine ⟨cs ++ [⟨n0, n1, n2, n3⟩], by simp [hcs], fun i o hi => ?_⟩
          by_cases hlt : i < k
          · rw [List.getElem?_append_left (by omega)] at hi
            exact hst i o hi
          · have hik : i = k := by
              have h1 := (List.getElem?_eq_some_iff.1 hi).1
              simp [hcs] at h1
              omega
            subst hik
            rw [List.getElem?_append_right (by omega), hcs, Nat.sub_self] at hi
            injection hi with hi
            subst hi
            refine ⟨⟨wf_i32 w0, wf_u8c w1, wf_u8c w2, wf_u8c w3⟩, fun j u hu => ?_⟩
            match j, hu with
            | 0, hu => injection hu with hu; subst hu; exact (congrArg W.cell? (add_off' g off (i * 4 + 0))).symm.trans hc0
            | 1, hu => injection hu with hu; subst hu; exact (congrArg W.cell? (add_off' g off (i * 4 + 1))).symm.trans hc1
            | 2, hu => injection hu with hu; subst hu; exact (congrArg W.cell? (add_off' g off (i * 4 + 2))).symm.trans hc2
            | 3, hu => injection hu with hu; subst hu; exact (congrArg W.cell? (add_off' g off (i * 4 + 3))).symm.trans hc3
      obtain ⟨cs, hcs, hst⟩ := key len (Nat.le_refl _)
      refine ⟨cs, ⟨some ⟨g, off, none⟩, cap, by rw [hcs], ⟨by omega, fun e => by cases e⟩, fun i k hk => ?_⟩, by omega⟩
      obtain ⟨h1, h2⟩ := hst i k hk
      exact ⟨h1, g, off, rfl, h2⟩
theorem cells_stays {H : Type} {enc : TypeId × Value → H} {W W' : World} {sp : Nat → Bool} {v : Value} {d : DataW H} {p : List MemPlace} (h : DataW.Trod enc Tryd.prog W 0 (fun _ => true) true 22 v d p) (hx : Ext W W') (hlt : ∀ q ∈ p, q.block < W.heap.size) (hsp : ∀ q ∈ p, sp q.block = true) :
    DataW.Trod enc Tryd.prog W' 0 sp true 22 v d p :=
  Go.WideElems.Trod_stays laidOutN readCells (by rw [typesSizeN]; decide) h (fun q hq => ext_sameN hx (hlt q hq)) hsp
set_option maxRecDepth 100000 in
theorem cell_of {H : Type} {enc : TypeId × Value → H} {W : World} {r : Reach} {b0 : Nat} {v : Value} {d : DataW H} {p : List MemPlace} (hv : Value.okWide Tryd.prog W r b0 25 v) (h : DataW.Trod enc Tryd.prog W 0 (fun _ => true) true 25 v d p) :
    ∃ c : Cel, v = c.val ∧ c.ok := by
  unfold Value.okWide at hv
  rw [Tryd.underlying25] at hv
  obtain ⟨cs, rfl, hz, _⟩ := hv
  rw [cellsCel] at hz
  obtain ⟨n, hn⟩ := h
  cases n with
  | zero => simp [DataW.trod] at hn
  | succ n =>
    unfold DataW.trod at hn
    rw [Tryd.underlying25] at hn
    obtain ⟨l, rfl⟩ : ∃ l : List Value, cs = l.toArray := ⟨cs.toList, by simp⟩
    match l, hz with
    | [a, b, c, e], _ =>
      simp only [Value.cells, cellsU8c, cellsI32, List.mapM_cons, List.mapM_nil, Option.bind_eq_bind] at hn
      rw [if_pos (by rw [cellsCel]; rfl), Option.map_eq_some_iff] at hn
      obtain ⟨xs, hxs, _⟩ := hn
      simp only [Option.bind_eq_some_iff] at hxs
      obtain ⟨x0, t0, y0, ⟨x1, t1, y1, ⟨x2, t2, y2, ⟨x3, t3, _⟩, _⟩, _⟩, _⟩ := hxs
      obtain ⟨n0, e0, _, w0⟩ := DataW.trod_int Tryd.underlying21 t0
      obtain ⟨n1, e1, _, w1⟩ := DataW.trod_int Tryd.underlying5 t1
      obtain ⟨n2, e2, _, w2⟩ := DataW.trod_int Tryd.underlying5 t2
      obtain ⟨n3, e3, _, w3⟩ := DataW.trod_int Tryd.underlying5 t3
      have f0 : a = .int .i32 n0 := List.cons.inj e0 |>.1
      have f1 : b = .int .u8 n1 := List.cons.inj e1 |>.1
      have f2 : c = .int .u8 n2 := List.cons.inj e2 |>.1
      have f3 : e = .int .u8 n3 := List.cons.inj e3 |>.1
      subst f0 f1 f2 f3
      exact ⟨⟨n0, n1, n2, n3⟩, rfl, wf_i32 w0, wf_u8c w1, wf_u8c w2, wf_u8c w3⟩
theorem cell_stays {H : Type} {enc : TypeId × Value → H} {W W' : World} {sp : Nat → Bool} {v : Value} {d : DataW H} {p : List MemPlace} (h : DataW.Trod enc Tryd.prog W 0 (fun _ => true) true 25 v d p) (hx : Ext W W') (hlt : ∀ q ∈ p, q.block < W.heap.size) (hsp : ∀ q ∈ p, sp q.block = true) :
    DataW.Trod enc Tryd.prog W' 0 sp true 25 v d p :=
  Go.WideElems.Trod_stays laidOutN readCel (by rw [typesSizeN]; decide) h (fun q hq => ext_sameN hx (hlt q hq)) hsp
end Go.Proofs.YtckdchkegbdiaaaDoor
