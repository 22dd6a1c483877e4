/- An argument that is a row of reads, opened; it reads behind the call as it did. -/
import Derived.Test.YtcfboalepnbifaaDoorReadsT
import Derived.Test.YtcfboalepnbifaaDoorIntsArg
import Derived.Test.YtcfboalepnbifaaDoorFieldsArg
namespace Go.Proofs.YtcfboalepnbifaaDoor
open Go Go.ChangeShapes Go.WideShapes Go.ChangeAt Go.RowKit Go.Deep

theorem oneCall : oneCellFields Tryd.prog #[{ name := "Kind", type := 3, offset := 0, embedded := false, tag := "", pkgPath := "", byteOffset := 0 }, { name := "Least", type := 3, offset := 1, embedded := false, tag := "", pkgPath := "", byteOffset := 8 }, { name := "Most", type := 3, offset := 2, embedded := false, tag := "", pkgPath := "", byteOffset := 16 }] = true := by kernel_rfl
theorem cellsCall : Tryd.prog.cellsOf 32 = 3 := by kernel_rfl
theorem readCalls : Tryd.prog.readableRec 22 = true := by kernel_rfl
set_option maxRecDepth 100000 in
theorem calls_of {H : Type} {enc : TypeId × Value → H} {W : World} {r : Reach} {b0 : Nat} {v : Value} {d : DataW H} {p : List MemPlace} (hv : Value.okWide Tryd.prog W r b0 22 v) (h : DataW.Trod enc Tryd.prog W 0 (fun _ => true) true 22 v d p) : ∃ cs, IsCalls W v cs ∧ cs.length ≤ maxLen := by
  obtain ⟨a, len, cap, rfl⟩ := okWide_slice Tryd.underlying22 hv
  obtain ⟨n, hn⟩ := h
  rcases open_slice_fields Tryd.underlying22 Tryd.underlying32 oneCall cellsCall hn with ⟨hcs, _⟩ | ⟨ad, len', cap', m, D, Pl, hcs, hb, hl, hm, hmm, hx, hf⟩
  · have e : Value.slice a len cap = .slice none 0 0 := by simpa [Value.cells] using hcs
    injection e with e1 e2 e3
    subst e1 e2 e3
    exact ⟨[], ⟨none, 0, rfl, fun i k h => by cases h⟩, Nat.zero_le _⟩
  · have e : Value.slice a len cap = .slice (some ad) len' cap' := by simpa [Value.cells] using hcs
    injection e with e1 e2 e3
    subst e1 e2 e3
    have hmc : m = cap := hmm
    rcases Nat.eq_zero_or_pos len with h0 | hp
    · subst h0
      exact ⟨[], ⟨_, _, rfl, fun i k h => by cases h⟩, Nat.zero_le _⟩
    · obtain ⟨g, off, spot⟩ := ad
      have hsp : spot = none := by
        obtain ⟨ys, k, _, _, _, hj⟩ := hf 0 (by omega)
        obtain ⟨v0, y0, hc, _, _⟩ := hj 0 _ rfl
        replace hc : W.cell? (⟨g, off, spot⟩ : Addr) = some v0 := hc
        cases spot with
        | none => rfl
        | some s =>
          unfold World.cell? at hc
          simp at hc
          split at hc <;> simp at hc
      subst hsp
      have key : ∀ k, k ≤ len → ∃ cs : List CallN, cs.length = k ∧ ∀ i c, cs[i]? = some c → W.cell? ⟨g, off + i * 3, none⟩ = some (.int .i64 c.kind) ∧ W.cell? ⟨g, off + i * 3 + 1, none⟩ = some (.int .i64 c.least) ∧ W.cell? ⟨g, off + i * 3 + 2, none⟩ = some (.int .i64 c.most) := by
        intro k
        induction k with
        | zero => exact fun _ => ⟨[], rfl, fun i o h => by cases h⟩
        | succ k ih =>
          intro hk
          obtain ⟨cs, hcs, hst⟩ := ih (by omega)
          obtain ⟨ys, f, _, _, _, hj⟩ := hf k (by omega)
          obtain ⟨v0, y0, hc0, _, ht0⟩ := hj 0 _ rfl
          obtain ⟨v1, y1, hc1, _, ht1⟩ := hj 1 _ rfl
          obtain ⟨v2, y2, hc2, _, ht2⟩ := hj 2 _ rfl
          obtain ⟨n0, e0, _, _⟩ := DataW.trod_int Tryd.underlying3 ht0
          obtain ⟨n1, e1, _, _⟩ := DataW.trod_int Tryd.underlying3 ht1
          obtain ⟨n2, e2, _, _⟩ := DataW.trod_int Tryd.underlying3 ht2
          injection e0 with e0 _
          injection e1 with e1 _
          injection e2 with e2 _
          subst e0 e1 e2
          refine ⟨cs ++ [⟨n0, n1, n2⟩], by simp [hcs], fun i o hi => ?_⟩
          by_cases hlt : i < k
          · rw [List.getElem?_append_left (by omega)] at hi
            exact hst i o hi
          · have hik : i = k := by
              have h1 := (List.getElem?_eq_some_iff.1 hi).1
              simp [hcs] at h1
              omega
            subst hik
            rw [List.getElem?_append_right (by omega), hcs, Nat.sub_self] at hi
            injection hi with hi
            subst hi
            exact ⟨(congrArg W.cell? (add_off' g off (i * 3 + 0))).symm.trans hc0, (congrArg W.cell? (add_off' g off (i * 3 + 1))).symm.trans hc1, (congrArg W.cell? (add_off' g off (i * 3 + 2))).symm.trans hc2⟩
      obtain ⟨cs, hcs, hst⟩ := key len (Nat.le_refl _)
      exact ⟨cs, ⟨some ⟨g, off, none⟩, cap, by rw [hcs], fun i k hk => ⟨g, off, rfl, hst i k hk⟩⟩, by omega⟩
theorem calls_stays {H : Type} {enc : TypeId × Value → H} {W W' : World} {sp : Nat → Bool} {v : Value} {d : DataW H} {p : List MemPlace} (h : DataW.Trod enc Tryd.prog W 0 (fun _ => true) true 22 v d p) (hx : Ext W W') (hlt : ∀ q ∈ p, q.block < W.heap.size) (hsp : ∀ q ∈ p, sp q.block = true) :
    DataW.Trod enc Tryd.prog W' 0 sp true 22 v d p :=
  Go.WideElems.Trod_stays laidOutN readCalls (by rw [typesSizeN]; decide) h (fun q hq => ext_sameN hx (hlt q hq)) hsp
end Go.Proofs.YtcfboalepnbifaaDoor
