/- A colour, a step, three parts; the ways of drawing; what takes numbers from the front: package pen. -/
import Derived.Test.YtgnknliaeoblhabDoorPenMath
import Derived.Test.YtgnknliaeoblhabDoorRunesLaid
import Derived.Test.YtgnknliaeoblhabDoorRunesRow
import Derived.Deep.LoopGhost
import Derived.RegionTactic
import Derived.BigRegion
namespace Go.Proofs.YtgnknliaeoblhabDoor
open Go Go.RowKit

/-- pen.ways: what turns a way on, and off, and its bit. -/
def waysTab : List (List Int) := [[1, 22, 1], [2, 22, 2], [3, 23, 4], [4, 24, 8], [5, 25, 16], [7, 27, 32]]
def waysKinds : List IntKind := [.i64, .i64, .u8]
def waysEl (zs : List Int) : List Value := List.zipWith (fun k z => Value.int k z) waysKinds zs
def waysCells : List Value := (waysTab.map waysEl).flatten
theorem gWays : Tryd.prog.globalNamed "lyceum/pen.ways" = some 0 := by kernel_rfl
theorem yWays : (Tryd.prog.globals[0]?).map (·.type) = some 52 := by kernel_rfl
theorem cWay : Tryd.prog.cellsOf 51 = 3 := by kernel_rfl
def Ways (w : World) : Prop := w.rangeAt 0 0 waysCells
theorem Ways.ext {w w' : World} (h : Ways w) (hx : Ext w w') : Ways w' := fun j v hv => hx.cell (h j v hv)
theorem Ways_of_reads {W : World} (h : Lib.VarReads Tryd.prog W "lyceum/pen.ways" Rows.laid_lyceum_pen_ways) : Ways W := by
  intro j v hv
  obtain ⟨i, zs, k, h1, h2, rfl⟩ := five_split (m := 3) (f := waysEl) (zss := waysTab) (by intro zs hzs; simp only [waysTab, List.mem_cons, List.not_mem_nil, or_false] at hzs; rcases hzs with rfl | rfl | rfl | rfl | rfl | rfl <;> rfl) j v hv
  have hi : i < 6 := (List.getElem?_eq_some_iff.1 h1).1
  rw [Nat.zero_add]
  refine rows_of_array gWays yWays Tryd.underlying52 Tryd.underlying51 (ks := waysKinds) (zss := waysTab) rfl ?_ cWay rfl ?_ h i hi zs h1 k v h2
  · intro j f hj
    match j, hj with
    | 0, hj => simp at hj; subst hj; exact ⟨_, rfl, Tryd.underlying3, rfl, cInt⟩
    | 1, hj => simp at hj; subst hj; exact ⟨_, rfl, Tryd.underlying3, rfl, cInt⟩
    | 2, hj => simp at hj; subst hj; exact ⟨_, rfl, Tryd.underlying5, rfl, cU8⟩
    | j + 3, hj => simp at hj
  · intro zs hzs
    simp only [waysTab, List.mem_cons, List.not_mem_nil, or_false] at hzs
    rcases hzs with rfl | rfl | rfl | rfl | rfl | rfl <;> rfl
theorem ways_of {L : List (String × DataW Unit)} {W : World} (h : laidMetH Tryd.prog L W) (hL : L.filter (fun x => x.1 == "lyceum/pen.ways") = [("lyceum/pen.ways", Rows.laid_lyceum_pen_ways)]) : Ways W := by
  have h1 := laidMetH.filter (fun x => x.1 == "lyceum/pen.ways") h
  rw [hL] at h1
  have h2 : laidMet Tryd.prog [("lyceum/pen.ways", Rows.laid_lyceum_pen_ways)] W := (laidMetH_iff.1 h1).1
  exact Ways_of_reads (Lib.laidMet.reads h2 (List.mem_singleton.2 rfl))

theorem colour_of (n : Int) (w : World) (h : n ≤ 255) : Calls Tryd.prog 19 #[.int .i64 n] w fun e w' => e = .returned (.int .u8 (colP n)) ∧ w' = w := by
  obtain ⟨m, hm⟩ : ∃ m, max n 1 = m := ⟨_, rfl⟩
  have hb : 1 ≤ m ∧ m ≤ 255 := by omega
  have hw : IntKind.u8.wrap m = m := by have : IntKind.u8.wrap m = m % 256 := rfl
                                        rw [this]; omega
  have HM := Lib.hid hm
  by_cases h1 : n < 1
  · have e1 : m = 1 := by omega
    subst e1
    clear hm
    go_enter Tryd.func19, Tryd.ntmps19
    go_wp2
    go_ret
    exact ⟨by unfold colP; rw [HM.out]; rfl, rfl⟩
  · have e1 : m = n := by omega
    subst e1
    clear hm
    go_enter Tryd.func19, Tryd.ntmps19
    go_wp2
    go_ret
    exact ⟨by unfold colP; rw [HM.out]; rfl, rfl⟩
theorem step_of (n : Int) (w : World) : Calls Tryd.prog 20 #[.int .i64 n] w fun e w' => e = .returned (.int .i64 (stepP n)) ∧ w' = w := by
  have h3 : n < 0 ∨ (0 ≤ n ∧ n ≤ 255) ∨ 255 < n := by omega
  have hs : stepP n = (min (max n 0) 255).tdiv 43 := by
    unfold stepP
    rw [Int.tdiv_eq_ediv_of_nonneg (by omega)]
  obtain ⟨q, hq⟩ : ∃ q, stepP n = q := ⟨_, rfl⟩
  have hqb := stepP_in n
  rw [hq] at hqb
  have hqw : wrap64 q = q := by unfold wrap64; omega
  have HM := Lib.hid hq
  rcases h3 with h | h | h
  · have e1 : max n 0 = 0 := by omega
    have e2 : min (0 : Int) 255 = 0 := by omega
    have e3 : (0 : Int).tdiv 43 = q := by rw [← hq, hs, e1, e2]
    clear hs hq
    go_enter Tryd.func20, Tryd.ntmps20
    go_wp2
    go_ret
    exact ⟨by rw [HM.out]; rfl, rfl⟩
  · have e1 : max n 0 = n := by omega
    have e2 : min n 255 = n := by omega
    have e3 : n.tdiv 43 = q := by rw [← hq, hs, e1, e2]
    clear hs hq
    go_enter Tryd.func20, Tryd.ntmps20
    go_wp2
    go_ret
    exact ⟨by rw [HM.out]; rfl, rfl⟩
  · have e1 : max n 0 = n := by omega
    have e2 : min n 255 = 255 := by omega
    have e3 : (255 : Int).tdiv 43 = q := by rw [← hq, hs, e1, e2]
    clear hs hq
    go_enter Tryd.func20, Tryd.ntmps20
    go_wp2
    go_ret
    exact ⟨by rw [HM.out]; rfl, rfl⟩
theorem Colour_of (r g b : Int) (w : World) : Calls Tryd.prog 13 #[.int .i64 r, .int .i64 g, .int .i64 b] w fun e w' => e = .returned (.int .u8 (rgbP r g b)) ∧ Ext w w' := by
  have h1 := stepP_in r
  have h2 := stepP_in g
  have h3 := stepP_in b
  have hr := rgbP_in r g b
  have hc : colP (rgbP r g b) = rgbP r g b := by unfold colP; omega
  have hd : 16 + 36 * stepP r + 6 * stepP g + stepP b = rgbP r g b := rfl
  have HF := Lib.hid (And.intro (fun V => step_of r V) (And.intro (fun V => step_of g V) (And.intro (fun V => step_of b V) (fun V => colour_of (rgbP r g b) V (by omega)))))
  generalize rgbP r g b = K at HF hr hc hd ⊢
  rw [hc] at HF
  generalize stepP r = x at HF h1 hd
  generalize stepP g = y at HF h2 hd
  generalize stepP b = z at HF h3 hd
  clear hc
  go_enter Tryd.func13, Tryd.ntmps13
  go_wp2_with fail
  refine (HF.out.1 _).mono ?_
  rintro e w1 ⟨rfl, rfl⟩
  go_wp2_with fail
  refine (HF.out.2.1 _).mono ?_
  rintro e w1 ⟨rfl, rfl⟩
  go_wp2_with fail
  refine (HF.out.2.2.1 _).mono ?_
  rintro e w1 ⟨rfl, rfl⟩
  go_wp2_with fail
  refine (HF.out.2.2.2 _).mono ?_
  rintro e w1 ⟨rfl, rfl⟩
  go_wp2
  go_ret
  exact ⟨rfl, Ext.refl _⟩
end Go.Proofs.YtgnknliaeoblhabDoor
