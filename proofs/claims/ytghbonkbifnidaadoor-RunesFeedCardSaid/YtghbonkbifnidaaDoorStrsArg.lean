/- An argument that is a row of texts, opened; it reads behind the call as it did. -/
import Derived.Test.YtghbonkbifnidaaDoorRunesArg
import Derived.SliceStrings
namespace Go.Proofs.YtghbonkbifnidaaDoor
open Go Go.ChangeShapes Go.WideShapes Go.ChangeAt Go.RowKit

/-- A slice that reads as a row of texts. -/
def IsStrs (w : World) (v : Value) (ss : List ByteArray) : Prop :=
  ∃ A c, v = .slice A ss.length c ∧ (ss.length ≤ c ∧ (A = none → c = 0)) ∧ ∀ i s, ss[i]? = some s → ∃ g off, A = some ⟨g, off, none⟩ ∧ w.cell? ⟨g, off + i, none⟩ = some (.string s)
theorem IsStrs.ext {w w' : World} {v : Value} {ss : List ByteArray} (h : IsStrs w v ss) (hx : Ext w w') : IsStrs w' v ss := by
  obtain ⟨A, c, e, hc, h⟩ := h
  refine ⟨A, c, e, hc, fun i n hi => ?_⟩
  obtain ⟨g, off, h2, h3⟩ := h i n hi
  exact ⟨g, off, h2, hx.cell h3⟩
theorem IsStrs.form {w : World} {v : Value} {ss : List ByteArray} (h : IsStrs w v ss) : ∃ A c, v = .slice A ss.length c ∧ ss.length ≤ c ∧ (A = none → c = 0) := by
  obtain ⟨A, c, e, hc, _⟩ := h
  exact ⟨A, c, e, hc.1, hc.2⟩
theorem IsStrs.at {w : World} {A : Option Addr} {n c : Nat} {ss : List ByteArray} (h : IsStrs w (.slice A n c) ss) {i : Nat} {s : ByteArray} (hi : ss[i]? = some s) : ∃ g off, A = some ⟨g, off, none⟩ ∧ w.cell? ⟨g, off + i, none⟩ = some (.string s) := by
  obtain ⟨A', c', e, _, h⟩ := h
  injection e with e1 _ _
  subst e1
  exact h i s hi
theorem cellsStr : Tryd.prog.cellsOf 9 = 1 := by kernel_rfl
theorem readStrs : Tryd.prog.readableRec 32 = true := by kernel_rfl
set_option maxRecDepth 100000 in
theorem strings_of {H : Type} {enc : TypeId × Value → H} {W : World} {r : Reach} {b0 : Nat} {v : Value} {d : DataW H} {p : List MemPlace} (hv : Value.okWide Tryd.prog W r b0 32 v) (h : DataW.Trod enc Tryd.prog W 0 (fun _ => true) true 32 v d p) : ∃ ss, IsStrs W v ss ∧ ss.length ≤ maxLen := by
  obtain ⟨a, len, cap, rfl⟩ := okWide_slice Tryd.underlying32 hv
  obtain ⟨n, hn⟩ := h
  rcases open_strings Tryd.underlying32 Tryd.underlying9 cellsStr hn with ⟨hcs, _⟩ | ⟨ad, len', cap', zs, hcs, hb, hl, hm, hz, hx, hc, hw⟩
  · have e : Value.slice a len cap = .slice none 0 0 := by simpa [Value.cells] using hcs
    injection e with e1 e2 e3
    subst e1 e2 e3
    exact ⟨[], ⟨none, 0, rfl, ⟨Nat.le_refl _, fun _ => rfl⟩, fun i n h => by cases h⟩, Nat.zero_le _⟩
  · have e : Value.slice a len cap = .slice (some ad) len' cap' := by simpa [Value.cells] using hcs
    injection e with e1 e2 e3
    subst e1 e2 e3
    have hzl : zs.length = cap := by simpa using hz
    have htl : (zs.take len).length = len := by rw [List.length_take]; omega
    refine ⟨zs.take len, ⟨some ad, cap, by rw [htl], ⟨by omega, fun h => by cases h⟩, fun i m hi => ?_⟩, by omega⟩
    have hil : i < len := by
      have := (List.getElem?_eq_some_iff.1 hi).1
      omega
    rw [List.getElem?_take_of_lt hil] at hi
    have hcell := hc i (by omega)
    have hgd : zs.getD i ByteArray.empty = m := by rw [List.getD_eq_getElem?_getD, hi]; rfl
    rw [hgd] at hcell
    obtain ⟨g, off, spot⟩ := ad
    have hsp : spot = none := by
      cases spot with
      | none => rfl
      | some s =>
        exfalso
        have h0 := hc 0 (by omega)
        rw [show (⟨g, off, some s⟩ : Addr).add 0 = ⟨g, off, some s⟩ from by unfold Addr.add; simp] at h0
        unfold World.cell? at h0
        simp at h0
        split at h0 <;> simp at h0
    subst hsp
    rw [add_off] at hcell
    exact ⟨g, off, rfl, hcell⟩
theorem strings_stays {H : Type} {enc : TypeId × Value → H} {W W' : World} {sp : Nat → Bool} {v : Value} {d : DataW H} {p : List MemPlace} (h : DataW.Trod enc Tryd.prog W 0 (fun _ => true) true 32 v d p) (hx : Ext W W') (hlt : ∀ q ∈ p, q.block < W.heap.size) (hsp : ∀ q ∈ p, sp q.block = true) :
    DataW.Trod enc Tryd.prog W' 0 sp true 32 v d p :=
  Go.WideElems.Trod_stays laidOutN readStrs (by rw [typesSizeN]; decide) h (fun q hq => ext_sameN hx (hlt q hq)) hsp
end Go.Proofs.YtghbonkbifnidaaDoor
