/- Arguments opened: a slice of numbers, an array of two; they read behind the call as they did. -/
import Derived.Test.YtgnknliaeoblhabDoorPutAll
import Derived.Test.YtgnknliaeoblhabDoorShut
import Derived.ProofKit
import Derived.OpenShut
import Derived.ChangeSlices
import Derived.ChangeMaps5
import Derived.WideKeyArgs
import Derived.ChangeArms
namespace Go.Proofs.YtgnknliaeoblhabDoor
open Go Go.ChangeShapes Go.WideShapes Go.ChangeAt Go.RowKit

theorem typesSizeN : Tryd.prog.types.size = 96 := by kernel_rfl
theorem laidOutN : laidOutB Tryd.prog = true := by kernel_rfl
theorem cellsInt : Tryd.prog.cellsOf 3 = 1 := by kernel_rfl
theorem readInts : Tryd.prog.readableRec 40 = true := by kernel_rfl
theorem ext_sameN {w w' : World} (hx : Ext w w') {p : MemPlace} (hp : p.block < w.heap.size) : w.sameAt w' p := by
  cases p with
  | cell b o => exact World.cell?_of_block (Below.block hx b hp)
  | map b => exact Below.block hx b hp
set_option maxRecDepth 100000 in
theorem ints_of {H : Type} {enc : TypeId × Value → H} {W : World} {r : Reach} {b0 : Nat} {v : Value} {d : DataW H} {p : List MemPlace} (hv : Value.okWide Tryd.prog W r b0 40 v) (h : DataW.Trod enc Tryd.prog W 0 (fun _ => true) true 40 v d p) : ∃ zs, IsInts W v zs ∧ zs.length ≤ maxLen := by
  obtain ⟨a, len, cap, rfl⟩ := okWide_slice Tryd.underlying40 hv
  obtain ⟨n, hn⟩ := h
  rcases open_ints Tryd.underlying40 Tryd.underlying3 cellsInt hn with ⟨hcs, _⟩ | ⟨ad, len', cap', zs, hcs, hb, hl, hm, hz, hx, hc, hw⟩
  · have e : Value.slice a len cap = .slice none 0 0 := by simpa [Value.cells] using hcs
    injection e with e1 e2 e3
    subst e1 e2 e3
    exact ⟨[], ⟨none, 0, rfl, ⟨Nat.le_refl _, fun _ => rfl⟩, fun i n h => by cases h⟩, Nat.zero_le _⟩
  · have e : Value.slice a len cap = .slice (some ad) len' cap' := by simpa [Value.cells] using hcs
    injection e with e1 e2 e3
    subst e1 e2 e3
    have hzl : zs.length = cap := by simpa using hz
    have htl : (zs.take len).length = len := by rw [List.length_take]; omega
    refine ⟨zs.take len, ⟨some ad, cap, by rw [htl], ⟨by omega, fun h => by cases h⟩, fun i m hi => ?_⟩, by omega⟩
    have hil : i < len := by
      have := (List.getElem?_eq_some_iff.1 hi).1
      omega
    rw [List.getElem?_take_of_lt hil] at hi
    have hmem : m ∈ zs := List.mem_of_getElem? hi
    have hcell := hc i (by omega)
    have hgd : zs.getD i 0 = m := by rw [List.getD_eq_getElem?_getD, hi]; rfl
    rw [hgd] at hcell
    obtain ⟨g, off, spot⟩ := ad
    have hsp : spot = none := by
      cases spot with
      | none => rfl
      | some s =>
        exfalso
        have h0 := hc 0 (by omega)
        rw [show (⟨g, off, some s⟩ : Addr).add 0 = ⟨g, off, some s⟩ from by unfold Addr.add; simp] at h0
        unfold World.cell? at h0
        simp at h0
        split at h0 <;> simp at h0
    subst hsp
    rw [add_off] at hcell
    exact ⟨wf_i64 (hw m hmem), g, off, rfl, hcell⟩
theorem ints_stays {H : Type} {enc : TypeId × Value → H} {W W' : World} {sp : Nat → Bool} {v : Value} {d : DataW H} {p : List MemPlace} (h : DataW.Trod enc Tryd.prog W 0 (fun _ => true) true 40 v d p) (hx : Ext W W') (hlt : ∀ q ∈ p, q.block < W.heap.size) (hsp : ∀ q ∈ p, sp q.block = true) :
    DataW.Trod enc Tryd.prog W' 0 sp true 40 v d p :=
  Go.WideElems.Trod_stays laidOutN readInts (by rw [typesSizeN]; decide) h (fun q hq => ext_sameN hx (hlt q hq)) hsp

end Go.Proofs.YtgnknliaeoblhabDoor
