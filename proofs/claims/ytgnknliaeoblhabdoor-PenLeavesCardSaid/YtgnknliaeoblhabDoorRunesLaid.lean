/- What runes.firsts and runes.spans hold: their cells, out of the rows' condition. -/
import Derived.Test.YtgnknliaeoblhabDoorKit
import Derived.Test.YtgnknliaeoblhabDoorRows
import Derived.Lib.LaidU8
import Derived.LaidHandle
import Derived.LaidSub
import Derived.LaidMore
import Derived.Deep.MidRow
namespace Go.Proofs.YtgnknliaeoblhabDoor
open Go Go.RowKit

/-- A struct of whole numbers of several kinds. -/
theorem kinds_of_struct {H : Type} {enc : TypeId × Value → H} {P : Program} {w : World} {base : Nat} {sp : Nat → Bool} {held : Bool} {fuel : Nat} {t : TypeId} {fs : Array Field} {ks : List IntKind} {zs : List Int} {cs : List Value} {p : List MemPlace}
    (ht : P.underlying t = some (.struct fs)) (hk : ks.length = fs.size) (hz : zs.length = fs.size)
    (hf : ∀ (i : Nat) (f : Field), fs[i]? = some f → ∃ k, ks[i]? = some k ∧ P.underlying f.type = some (.int k) ∧ f.offset = i ∧ P.cellsOf f.type = 1) (hct : P.cellsOf t = fs.size)
    (h : DataW.trod enc P w base sp held fuel t cs = some (.agg (List.zipWith (fun k z => .lit (.int k z)) ks zs), p)) : cs = List.zipWith (fun k z => Value.int k z) ks zs := by
  obtain ⟨xs, n, rfl, hx, hl, hxl, hall⟩ := DataW.trod_struct ht h
  have hxs : xs.map (·.1) = List.zipWith (fun k z => (DataW.lit (.int k z) : DataW H)) ks zs := by
    have := congrArg Prod.fst hx
    simpa using this.symm
  apply List.ext_getElem?
  intro i
  by_cases hi : i < fs.size
  · obtain ⟨k, hki, hu, ho, hc⟩ := hf i fs[i] (by simp [hi])
    have h1 := hall i fs[i] (by simp [hi])
    obtain ⟨b, hb⟩ : ∃ b, xs[i]? = some b := ⟨xs[i]'(by omega), List.getElem?_eq_getElem (by omega)⟩
    obtain ⟨z0, hz0⟩ : ∃ z, zs[i]? = some z := ⟨zs[i]'(by omega), List.getElem?_eq_getElem (by omega)⟩
    rw [hb, ho, hc] at h1
    obtain ⟨z, hcz, rfl, _⟩ := DataW.trod_int hu h1
    have h2 : cs[i]? = some (.int k z) := by
      have := congrArg (·[0]?) hcz
      simpa [List.getElem?_take, List.getElem?_drop] using this
    have h3 : (xs.map (·.1))[i]? = some (DataW.lit (.int k z) : DataW H) := by simp [hb]
    rw [hxs, List.getElem?_zipWith, hki, hz0] at h3
    simp only [Option.some.injEq, DataW.lit.injEq, Lit.int.injEq, true_and] at h3
    rw [h2, List.getElem?_zipWith, hki, hz0, h3]
  · rw [List.getElem?_eq_none (by omega), List.getElem?_eq_none (by simp; omega)]
/-- An array of such structs: its i-th element's cells. -/
theorem rows_of_array {P : Program} {w : World} {n : String} {g : Nat} {t e : TypeId} {m : Nat} {fs : Array Field} {ks : List IntKind} {zss : List (List Int)} {d : DataW Unit}
    (hg : P.globalNamed n = some g) (hy : (P.globals[g]?).map (·.type) = some t) (ht : P.underlying t = some (.array m e)) (he : P.underlying e = some (.struct fs)) (hk : ks.length = fs.size)
    (hf : ∀ (i : Nat) (f : Field), fs[i]? = some f → ∃ k, ks[i]? = some k ∧ P.underlying f.type = some (.int k) ∧ f.offset = i ∧ P.cellsOf f.type = 1) (hce : P.cellsOf e = fs.size)
    (hd : d = .agg (zss.map fun zs => .agg (List.zipWith (fun k z => .lit (.int k z)) ks zs))) (hz : ∀ zs, zs ∈ zss → zs.length = fs.size)
    (h : Lib.VarReads P w n d) (i : Nat) (hi : i < m) (zs : List Int) (hzs : zss[i]? = some zs) (j : Nat) (v : Value) (hv : (List.zipWith (fun k z => Value.int k z) ks zs)[j]? = some v) :
    w.cell? ⟨g, i * fs.size + j, none⟩ = some v := by
  obtain ⟨g', t', cs, fuel, p, hg', hty, hvar, hr⟩ := h
  obtain rfl := Option.some.inj (hg.symm.trans hg')
  obtain rfl := Option.some.inj (hy.symm.trans hty)
  subst hd
  obtain ⟨fuel', d', q, hdi, he'⟩ := Lib.array_elem ht hr i hi
  rw [List.getElem?_map, hzs] at hdi
  obtain rfl := Option.some.inj hdi
  rw [hce] at he'
  have hzl := hz zs (List.mem_of_getElem? hzs)
  have hcs := kinds_of_struct he hk hzl hf hce he'
  have hj : j < fs.size := by
    have := (List.getElem?_eq_some_iff.1 hv).1
    simp at this
    omega
  have e1 := congrArg (·[j]?) hcs
  simp only [List.getElem?_take, List.getElem?_drop] at e1
  rw [if_pos hj] at e1
  rw [World.var?_cell hg' hvar, ← Array.getElem?_toList, e1, hv]

/-- runes.firsts: from, to, how many follow, and from where to where the next one is. -/
def firstsTab : List (List Int) := [[194, 223, 1, 128, 191], [224, 224, 2, 160, 191], [225, 236, 2, 128, 191], [237, 237, 2, 128, 159], [238, 239, 2, 128, 191], [240, 240, 3, 144, 191], [241, 243, 3, 128, 191], [244, 244, 3, 128, 143]]
def firstsKinds : List IntKind := [.u8, .u8, .i64, .u8, .u8]
def firstsEl (zs : List Int) : List Value := List.zipWith (fun k z => Value.int k z) firstsKinds zs
def firstsCells : List Value := (firstsTab.map firstsEl).flatten
theorem cU8 : Tryd.prog.cellsOf 5 = 1 := by kernel_rfl
theorem cInt : Tryd.prog.cellsOf 3 = 1 := by kernel_rfl
theorem cI32 : Tryd.prog.cellsOf 21 = 1 := by kernel_rfl
theorem five_split {m : Nat} {zss : List (List Int)} {f : List Int → List Value} (hl : ∀ zs, zs ∈ zss → (f zs).length = m) : ∀ (j : Nat) (v : Value), (zss.map f).flatten[j]? = some v → ∃ i zs k, zss[i]? = some zs ∧ (f zs)[k]? = some v ∧ j = i * m + k := by
  induction zss with
  | nil => intro j v h; simp at h
  | cons z zss ih =>
    intro j v h
    have hz := hl z (List.mem_cons_self ..)
    rw [List.map_cons, List.flatten_cons] at h
    by_cases hj : j < m
    · rw [List.getElem?_append_left (by omega)] at h
      exact ⟨0, z, j, rfl, h, by omega⟩
    · rw [List.getElem?_append_right (by omega), hz] at h
      obtain ⟨i, zs, k, h1, h2, h3⟩ := ih (fun q hq => hl q (List.mem_cons_of_mem _ hq)) _ _ h
      refine ⟨i + 1, zs, k, by simpa using h1, h2, ?_⟩
      rw [Nat.add_mul]
      omega
/-- runes.spans: the first, the last, how wide. -/
def spansTab : List (List Int) := [[-2147483648, 31, 0], [127, 159, 0], [768, 879, 0], [4352, 4447, 2], [8203, 8207, 0], [11904, 12350, 2], [12353, 42191, 2], [44032, 55203, 2], [55296, 57343, 0], [63744, 64255, 2], [65024, 65039, 0], [65072, 65135, 2], [65281, 65376, 2], [65504, 65510, 2], [127744, 128591, 2], [129280, 129535, 2], [131072, 262141, 2], [1114112, 2147483647, 0]]
def spansKinds : List IntKind := [.i32, .i32, .i64]
def spansEl (zs : List Int) : List Value := List.zipWith (fun k z => Value.int k z) spansKinds zs
def spansCells : List Value := (spansTab.map spansEl).flatten
theorem spans_all {p : List Int → Prop} (h : ∀ zs, zs ∈ spansTab → zs.length = 3 → p zs) : ∀ zs, zs ∈ spansTab → p zs := by
  intro zs hzs
  refine h zs hzs ?_
  simp only [spansTab, List.mem_cons, List.not_mem_nil, or_false] at hzs
  rcases hzs with rfl | rfl | rfl | rfl | rfl | rfl | rfl | rfl | rfl | rfl | rfl | rfl | rfl | rfl | rfl | rfl | rfl | rfl <;> rfl
end Go.Proofs.YtgnknliaeoblhabDoor
