/- An argument that is a script of steps, opened; arguments that read behind the call as they did. -/
import Derived.Test.YtlcnicgjlddldaaDoorTexts
import Derived.Test.YtlcnicgjlddldaaDoorRowKit
import Derived.Test.YtlcnicgjlddldaaDoorShut
import Derived.Deep.Slices
import Derived.Deep.Fields
import Derived.ChangeSame
import Derived.ChangeMaps5
import Derived.WideKeyArgs
namespace Go.Proofs.YtlcnicgjlddldaaDoor
open Go Go.ChangeShapes Go.WideShapes Go.ChangeAt Go.RowKit Go.Deep

section
variable {H : Type} {enc : TypeId × Value → H} {P : Program} {w : World} {base : Nat} {spare : Nat → Bool} {held : Bool}
theorem open_slice_fields {t e : TypeId} {fs : Array Field} {fuel : Nat} {cs : List Value} {x : DataW H × List MemPlace} (ht : P.underlying t = some (.slice e)) (he : P.underlying e = some (.struct fs))
    (hone : oneCellFields P fs = true) (hC : P.cellsOf e = fs.size) (h : DataW.trod enc P w base spare held fuel t cs = some x) :
    (cs = [.slice none 0 0] ∧ x = (.nil, [])) ∨
    ∃ (a : Addr) (len cap m : Nat) (D : Nat → DataW H) (Pl : Nat → List MemPlace), cs = [.slice (some a) len cap] ∧ base ≤ a.block ∧ len ≤ cap ∧ cap ≤ maxLen ∧ m = (if spare a.block then cap else len) ∧
      x = (.slice ((List.range len).map D) ((List.range (m - len)).map fun j => D (len + j)), MemPlace.row a (m * fs.size) ++ (List.range m).flatMap Pl) ∧
      ∀ i, i < m → ∃ (ys : List (DataW H × List MemPlace)) (n : Nat), D i = .agg (ys.map (·.1)) ∧ Pl i = ys.flatMap (·.2) ∧ ys.length = fs.size ∧
        ∀ (j : Nat) (f : Field), fs[j]? = some f → ∃ (v : Value) (y : DataW H × List MemPlace), w.cell? (a.add (i * fs.size + j)) = some v ∧ ys[j]? = some y ∧ DataW.trod enc P w base spare held n f.type [v] = some y := by
  rcases open_slice ht h with h0 | ⟨a, len, cap, m, n, D, Pl, hcs, hb, hl, hm, hmm, hx, hi⟩
  · exact .inl h0
  · refine .inr ⟨a, len, cap, m, D, Pl, hcs, hb, hl, hm, hmm, by rw [hC] at hx; exact hx, fun i him => ?_⟩
    obtain ⟨cs', hc, ht'⟩ := hi i him
    rw [hC] at hc
    obtain ⟨ys, n', hn', hy, hlen, hyl, hf⟩ := DataW.trod_struct he ht'
    obtain ⟨_, hcl, hat⟩ := World.cells?_some hc
    simp only [Prod.mk.injEq] at hy
    refine ⟨ys, n', hy.1, hy.2, hyl, fun j f hj => ?_⟩
    obtain ⟨ho, hk⟩ := hone_of hone j f hj
    have hjl : j < fs.size := (Array.getElem?_eq_some_iff.1 hj).1
    have hcell := hat j hjl
    have hv : cs'[j]? = some (cs'[j]'(by omega)) := List.getElem?_eq_getElem (by omega)
    have h1 := hf j f hj
    rw [ho, hk] at h1
    have hone' : (cs'.drop j).take 1 = [cs'[j]'(by omega)] := by
      rw [List.drop_eq_getElem_cons (by omega)]
      rfl
    rw [hone'] at h1
    have hys : ys[j]? = some (ys[j]'(by omega)) := List.getElem?_eq_getElem (by omega)
    refine ⟨_, _, ?_, hys, h1.trans hys⟩
    rw [← Go.Deep.add_add, hcell, hv]
end

theorem oneOp : oneCellFields Tryd.prog #[{ name := "Kind", type := 3, offset := 0, embedded := false, tag := "", pkgPath := "", byteOffset := 0 }, { name := "Code", type := 3, offset := 1, embedded := false, tag := "", pkgPath := "", byteOffset := 8 }, { name := "Place", type := 3, offset := 2, embedded := false, tag := "", pkgPath := "", byteOffset := 16 }, { name := "Word", type := 9, offset := 3, embedded := false, tag := "", pkgPath := "", byteOffset := 24 }, { name := "Far", type := 4, offset := 4, embedded := false, tag := "", pkgPath := "", byteOffset := 40 }] = true := by kernel_rfl
theorem cellsOp : Tryd.prog.cellsOf 66 = 5 := by kernel_rfl

theorem add_off' (g off j : Nat) : (⟨g, off, none⟩ : Addr).add j = ⟨g, off + j, none⟩ := by unfold Addr.add; split <;> simp_all
set_option maxRecDepth 100000 in
theorem script_of {H : Type} {enc : TypeId × Value → H} {W : World} {r : Reach} {b0 : Nat} {v : Value} {d : DataW H} {p : List MemPlace} (hv : Value.okWide Tryd.prog W r b0 22 v) (h : DataW.Trod enc Tryd.prog W 0 (fun _ => true) true 22 v d p) : IsScript W v := by
  obtain ⟨a, len, cap, rfl⟩ := okWide_slice Tryd.underlying22 hv
  obtain ⟨n, hn⟩ := h
  rcases open_slice_fields Tryd.underlying22 Tryd.underlying66 oneOp cellsOp hn with ⟨hcs, _⟩ | ⟨ad, len', cap', m, D, Pl, hcs, hb, hl, hm, hmm, hx, hf⟩
  · have e : Value.slice a len cap = .slice none 0 0 := by simpa [Value.cells] using hcs
    injection e with _ e2 _
    subst e2
    exact .inl ⟨a, cap, rfl⟩
  · have e : Value.slice a len cap = .slice (some ad) len' cap' := by simpa [Value.cells] using hcs
    injection e with e1 e2 e3
    subst e1 e2 e3
    have hmc : m = cap := hmm
    rcases Nat.eq_zero_or_pos len with h0 | hp
    · subst h0
      exact .inl ⟨_, _, rfl⟩
    · obtain ⟨g, off, spot⟩ := ad
      have hsp : spot = none := by
        obtain ⟨ys, k, _, _, _, hj⟩ := hf 0 (by omega)
        obtain ⟨v0, y0, hc, _, _⟩ := hj 0 _ rfl
        replace hc : W.cell? (⟨g, off, spot⟩ : Addr) = some v0 := hc
        cases spot with
        | none => rfl
        | some s =>
          unfold World.cell? at hc
          simp at hc
          split at hc <;> simp at hc
      subst hsp
      have key : ∀ k, k ≤ len → ∃ os : List Step, os.length = k ∧ StepsAt W g off os := by
        intro k
        induction k with
        | zero => exact fun _ => ⟨[], rfl, fun i o h => by cases h⟩
        | succ k ih =>
          intro hk
          obtain ⟨os, hos, hst⟩ := ih (by omega)
          obtain ⟨ys, f, _, _, _, hj⟩ := hf k (by omega)
          obtain ⟨v0, y0, hc0, _, ht0⟩ := hj 0 _ rfl
          obtain ⟨v1, y1, hc1, _, ht1⟩ := hj 1 _ rfl
          obtain ⟨v2, y2, hc2, _, ht2⟩ := hj 2 _ rfl
          obtain ⟨v3, y3, hc3, _, ht3⟩ := hj 3 _ rfl
          obtain ⟨v4, y4, hc4, _, ht4⟩ := hj 4 _ rfl
          obtain ⟨n0, e0, _, w0⟩ := DataW.trod_int Tryd.underlying3 ht0
          obtain ⟨n1, e1, _, w1⟩ := DataW.trod_int Tryd.underlying3 ht1
          obtain ⟨n2, e2, _, w2⟩ := DataW.trod_int Tryd.underlying3 ht2
          obtain ⟨n3, e3, _, _⟩ := DataW.trod_string Tryd.underlying9 ht3
          obtain ⟨n4, e4, _⟩ := DataW.trod_bool Tryd.underlying4 ht4
          injection e0 with e0 _
          injection e1 with e1 _
          injection e2 with e2 _
          injection e3 with e3 _
          injection e4 with e4 _
          subst e0 e1 e2 e3 e4
          refine ⟨os ++ [⟨n0, n1, n2, n3, n4⟩], by simp [hos], fun i o hi => ?_⟩
          by_cases hlt : i < k
          · rw [List.getElem?_append_left (by omega)] at hi
            exact hst i o hi
          · have hik : i = k := by
              have h1 := (List.getElem?_eq_some_iff.1 hi).1
              simp [hos] at h1
              omega
            subst hik
            rw [List.getElem?_append_right (by omega), hos, Nat.sub_self] at hi
            injection hi with hi
            subst hi
            refine ⟨fun j u hu => ?_, wf_i64 w1, wf_i64 w2⟩
            match j, hu with
            | 0, hu => injection hu with hu; subst hu; exact (congrArg W.cell? (add_off' g off (i * 5 + 0))).symm.trans hc0
            | 1, hu => injection hu with hu; subst hu; exact (congrArg W.cell? (add_off' g off (i * 5 + 1))).symm.trans hc1
            | 2, hu => injection hu with hu; subst hu; exact (congrArg W.cell? (add_off' g off (i * 5 + 2))).symm.trans hc2
            | 3, hu => injection hu with hu; subst hu; exact (congrArg W.cell? (add_off' g off (i * 5 + 3))).symm.trans hc3
            | 4, hu => injection hu with hu; subst hu; exact (congrArg W.cell? (add_off' g off (i * 5 + 4))).symm.trans hc4
      obtain ⟨os, hos, hst⟩ := key len (Nat.le_refl _)
      exact .inr ⟨os, g, off, cap, by rw [hos], hst⟩

theorem ext_same {w w' : World} (hx : Ext w w') {p : MemPlace} (hp : p.block < w.heap.size) : w.sameAt w' p := by
  cases p with
  | cell b o => exact World.cell?_of_block (Below.block hx b hp)
  | map b => exact Below.block hx b hp
theorem laidOut : laidOutB Tryd.prog = true := by kernel_rfl
theorem readScript : Tryd.prog.readableRec 22 = true := by kernel_rfl

set_option maxRecDepth 100000 in
theorem script_stays {H : Type} {enc : TypeId × Value → H} {W W' : World} {sp : Nat → Bool} {v : Value} {d : DataW H} {p : List MemPlace} (h : DataW.Trod enc Tryd.prog W 0 (fun _ => true) true 22 v d p) (hx : Ext W W') (hlt : ∀ q ∈ p, q.block < W.heap.size) (hsp : ∀ q ∈ p, sp q.block = true) :
    DataW.Trod enc Tryd.prog W' 0 sp true 22 v d p :=
  Go.WideElems.Trod_stays laidOut readScript (by rw [typesSize]; decide) h (fun q hq => ext_same hx (hlt q hq)) hsp
end Go.Proofs.YtlcnicgjlddldaaDoor
