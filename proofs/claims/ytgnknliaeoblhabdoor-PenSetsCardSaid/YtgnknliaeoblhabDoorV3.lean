/- A colour, a step, three parts; the ways of drawing; what takes numbers from the front: package pen. · What a number does to the ways of drawing: pen.drawn. · What takes numbers from the front: pen.taker, its closure; what a 38 or a 48 chooses: pen.chosen. · What a number makes of a pen: pen.obeyed. -/
import Derived.Test.YtgnknliaeoblhabDoorV1
import Derived.Test.YtgnknliaeoblhabDoorV2
import Derived.Deep.LoopGhost
import Derived.RegionTactic
import Derived.BigRegion
import Derived.StillTailTactics
namespace Go.Proofs.YtgnknliaeoblhabDoor
open Go Go.RowKit

/-- pen.ways: what turns a way on, and off, and its bit. -/
def waysTab : List (List Int) := [[1, 22, 1], [2, 22, 2], [3, 23, 4], [4, 24, 8], [5, 25, 16], [7, 27, 32]]
def waysKinds : List IntKind := [.i64, .i64, .u8]
def waysEl (zs : List Int) : List Value := List.zipWith (fun k z => Value.int k z) waysKinds zs
def waysCells : List Value := (waysTab.map waysEl).flatten
theorem gWays : Tryd.prog.globalNamed "lyceum/pen.ways" = some 0 := by kernel_rfl
theorem yWays : (Tryd.prog.globals[0]?).map (·.type) = some 52 := by kernel_rfl
theorem cWay : Tryd.prog.cellsOf 51 = 3 := by kernel_rfl
def Ways (w : World) : Prop := w.rangeAt 0 0 waysCells
theorem Ways.ext {w w' : World} (h : Ways w) (hx : Ext w w') : Ways w' := fun j v hv => hx.cell (h j v hv)
theorem Ways_of_reads {W : World} (h : Lib.VarReads Tryd.prog W "lyceum/pen.ways" Rows.laid_lyceum_pen_ways) : Ways W := by
  intro j v hv
  obtain ⟨i, zs, k, h1, h2, rfl⟩ := five_split (m := 3) (f := waysEl) (zss := waysTab) (by intro zs hzs; simp only [waysTab, List.mem_cons, List.not_mem_nil, or_false] at hzs; rcases hzs with rfl | rfl | rfl | rfl | rfl | rfl <;> rfl) j v hv
  have hi : i < 6 := (List.getElem?_eq_some_iff.1 h1).1
  rw [Nat.zero_add]
  refine rows_of_array gWays yWays Tryd.underlying52 Tryd.underlying51 (ks := waysKinds) (zss := waysTab) rfl ?_ cWay rfl ?_ h i hi zs h1 k v h2
  · intro j f hj
    match j, hj with
    | 0, hj => simp at hj; subst hj; exact ⟨_, rfl, Tryd.underlying3, rfl, cInt⟩
    | 1, hj => simp at hj; subst hj; exact ⟨_, rfl, Tryd.underlying3, rfl, cInt⟩
    | 2, hj => simp at hj; subst hj; exact ⟨_, rfl, Tryd.underlying5, rfl, cU8⟩
    | j + 3, hj => simp at hj
  · intro zs hzs
    simp only [waysTab, List.mem_cons, List.not_mem_nil, or_false] at hzs
    rcases hzs with rfl | rfl | rfl | rfl | rfl | rfl <;> rfl
theorem ways_of {L : List (String × DataW Unit)} {W : World} (h : laidMetH Tryd.prog L W) (hL : L.filter (fun x => x.1 == "lyceum/pen.ways") = [("lyceum/pen.ways", Rows.laid_lyceum_pen_ways)]) : Ways W := by
  have h1 := laidMetH.filter (fun x => x.1 == "lyceum/pen.ways") h
  rw [hL] at h1
  have h2 : laidMet Tryd.prog [("lyceum/pen.ways", Rows.laid_lyceum_pen_ways)] W := (laidMetH_iff.1 h1).1
  exact Ways_of_reads (Lib.laidMet.reads h2 (List.mem_singleton.2 rfl))

theorem colour_of (n : Int) (w : World) (h : n ≤ 255) : Calls Tryd.prog 19 #[.int .i64 n] w fun e w' => e = .returned (.int .u8 (colP n)) ∧ w' = w := by
  obtain ⟨m, hm⟩ : ∃ m, max n 1 = m := ⟨_, rfl⟩
  have hb : 1 ≤ m ∧ m ≤ 255 := by omega
  have hw : IntKind.u8.wrap m = m := by have : IntKind.u8.wrap m = m % 256 := rfl
                                        rw [this]; omega
  have HM := Lib.hid hm
  by_cases h1 : n < 1
  · have e1 : m = 1 := by omega
    subst e1
    clear hm
    go_enter Tryd.func19, Tryd.ntmps19
    go_wp2
    go_ret
    exact ⟨by unfold colP; rw [HM.out]; rfl, rfl⟩
  · have e1 : m = n := by omega
    subst e1
    clear hm
    go_enter Tryd.func19, Tryd.ntmps19
    go_wp2
    go_ret
    exact ⟨by unfold colP; rw [HM.out]; rfl, rfl⟩
theorem step_of (n : Int) (w : World) : Calls Tryd.prog 20 #[.int .i64 n] w fun e w' => e = .returned (.int .i64 (stepP n)) ∧ w' = w := by
  have h3 : n < 0 ∨ (0 ≤ n ∧ n ≤ 255) ∨ 255 < n := by omega
  have hs : stepP n = (min (max n 0) 255).tdiv 43 := by
    unfold stepP
    rw [Int.tdiv_eq_ediv_of_nonneg (by omega)]
  obtain ⟨q, hq⟩ : ∃ q, stepP n = q := ⟨_, rfl⟩
  have hqb := stepP_in n
  rw [hq] at hqb
  have hqw : wrap64 q = q := by unfold wrap64; omega
  have HM := Lib.hid hq
  rcases h3 with h | h | h
  · have e1 : max n 0 = 0 := by omega
    have e2 : min (0 : Int) 255 = 0 := by omega
    have e3 : (0 : Int).tdiv 43 = q := by rw [← hq, hs, e1, e2]
    clear hs hq
    go_enter Tryd.func20, Tryd.ntmps20
    go_wp2
    go_ret
    exact ⟨by rw [HM.out]; rfl, rfl⟩
  · have e1 : max n 0 = n := by omega
    have e2 : min n 255 = n := by omega
    have e3 : n.tdiv 43 = q := by rw [← hq, hs, e1, e2]
    clear hs hq
    go_enter Tryd.func20, Tryd.ntmps20
    go_wp2
    go_ret
    exact ⟨by rw [HM.out]; rfl, rfl⟩
  · have e1 : max n 0 = n := by omega
    have e2 : min n 255 = 255 := by omega
    have e3 : (255 : Int).tdiv 43 = q := by rw [← hq, hs, e1, e2]
    clear hs hq
    go_enter Tryd.func20, Tryd.ntmps20
    go_wp2
    go_ret
    exact ⟨by rw [HM.out]; rfl, rfl⟩
theorem Colour_of (r g b : Int) (w : World) : Calls Tryd.prog 13 #[.int .i64 r, .int .i64 g, .int .i64 b] w fun e w' => e = .returned (.int .u8 (rgbP r g b)) ∧ Ext w w' := by
  have h1 := stepP_in r
  have h2 := stepP_in g
  have h3 := stepP_in b
  have hr := rgbP_in r g b
  have hc : colP (rgbP r g b) = rgbP r g b := by unfold colP; omega
  have hd : 16 + 36 * stepP r + 6 * stepP g + stepP b = rgbP r g b := rfl
  have HF := Lib.hid (And.intro (fun V => step_of r V) (And.intro (fun V => step_of g V) (And.intro (fun V => step_of b V) (fun V => colour_of (rgbP r g b) V (by omega)))))
  generalize rgbP r g b = K at HF hr hc hd ⊢
  rw [hc] at HF
  generalize stepP r = x at HF h1 hd
  generalize stepP g = y at HF h2 hd
  generalize stepP b = z at HF h3 hd
  clear hc
  go_enter Tryd.func13, Tryd.ntmps13
  go_wp2_with fail
  refine (HF.out.1 _).mono ?_
  rintro e w1 ⟨rfl, rfl⟩
  go_wp2_with fail
  refine (HF.out.2.1 _).mono ?_
  rintro e w1 ⟨rfl, rfl⟩
  go_wp2_with fail
  refine (HF.out.2.2.1 _).mono ?_
  rintro e w1 ⟨rfl, rfl⟩
  go_wp2_with fail
  refine (HF.out.2.2.2 _).mono ?_
  rintro e w1 ⟨rfl, rfl⟩
  go_wp2
  go_ret
  exact ⟨rfl, Ext.refl _⟩
end Go.Proofs.YtgnknliaeoblhabDoor
namespace Go.Proofs.YtgnknliaeoblhabDoor
open Go Go.RowKit

theorem Ways.at {w : World} (h : Ways w) (i : Nat) (hi : i < 6) : w.cell? ⟨0, i * 3, none⟩ = some (.int .i64 (onW i)) ∧ w.cell? ⟨0, i * 3 + 1, none⟩ = some (.int .i64 (offW i)) ∧ w.cell? ⟨0, i * 3 + 2, none⟩ = some (.int .u8 (bitW i)) := by
  have hc : ∀ j v, waysCells[j]? = some v → w.cell? ⟨0, j, none⟩ = some v := fun j v hv => by
    have := h j v hv
    rwa [Nat.zero_add] at this
  rcases bitW_cases i hi with rfl | rfl | rfl | rfl | rfl | rfl <;> exact ⟨hc _ _ rfl, hc _ _ rfl, hc _ _ rfl⟩
set_option maxHeartbeats 2000000 in
set_option maxRecDepth 100000 in
theorem drawn_of (a n : Int) (w : World) (hW : Ways w) : Calls Tryd.prog 27 #[.int .u8 a, .int .i64 n] w fun e w' => e = .returned (.int .u8 (drawnP a n)) ∧ Ext w w' := by
  obtain ⟨R, hR⟩ : ∃ R, drawFrom 6 0 a n = R := ⟨_, rfl⟩
  rw [show drawnP a n = R from hR]
  have H := Lib.hid (And.intro hW hR); clear hW hR
  go_enter Tryd.func27, Tryd.ntmps27
  go_wp2
  go_loopg [0, 6] 6 (fun k u v wr => ∃ (m : Nat) (b : Int), u = .int .u8 b ∧ v = .int .i64 m ∧ Hid (m + k = 6 ∧ drawFrom k m b n = R ∧ Ext w wr))
  case atStart => exact ⟨0, a, rfl, rfl, rfl, H.out.2, Ext.refl w⟩
  case round =>
    obtain ⟨m, b, rfl, rfl, hin⟩ := hrel
    by_cases hm : m < 6
    · obtain ⟨k, rfl⟩ : ∃ k, gk = k + 1 := ⟨gk - 1, by have := hin.out.1; omega⟩
      obtain ⟨k0, k1, k2⟩ := (H.out.1.ext hin.out.2.2).at m hm
      have hw := hin.out.2.1
      simp only [drawFrom, wayP] at hw
      have HW := Lib.hid hw; clear hw
      have hmI : (m : Int) < 6 := by omega
      generalize onW m = x at k0 HW
      generalize offW m = y at k1 HW
      generalize bitW m = z at k2 HW
      by_cases h1 : n = x
      · rw [if_pos h1] at HW
        have e1 : (n == x) = true := by simp [h1]
        clear h1
        generalize hB : bits .or .u8 b z = B at HW
        go_wp2
        go_roundg k
        case measure => omega
        case rel => exact ⟨m + 1, B, by rw [← hB], by go_num, by have := hin.out.1; omega, HW.out, hin.out.2.2⟩
      · rw [if_neg h1] at HW
        have e1 : (n == x) = false := by simp [h1]
        clear h1
        by_cases h2 : n = y
        · rw [if_pos h2] at HW
          have e2 : (n == y) = true := by simp [h2]
          clear h2
          generalize hB : bits .andNot .u8 b z = B at HW
          go_wp2
          go_roundg k
          case measure => omega
          case rel => exact ⟨m + 1, B, by rw [← hB], by go_num, by have := hin.out.1; omega, HW.out, hin.out.2.2⟩
        · rw [if_neg h2] at HW
          have e2 : (n == y) = false := by simp [h2]
          clear h2
          go_wp2
          go_roundg k
          case measure => omega
          case rel => exact ⟨m + 1, b, rfl, by go_num, by have := hin.out.1; omega, HW.out, hin.out.2.2⟩
    · obtain rfl : m = 6 := by have := hin.out.1; omega
      obtain rfl : gk = 0 := by have := hin.out.1; omega
      have e1 : b = R := hin.out.2.1
      have E1 := Lib.hid e1; clear e1
      go_wp2
      go_ret
      exact ⟨by rw [← E1.out]; rfl, hin.out.2.2⟩
end Go.Proofs.YtgnknliaeoblhabDoor
namespace Go.Proofs.YtgnknliaeoblhabDoor
open Go Go.RowKit

/-- Numbers are taken from the front: the box holds what is left. -/
def TakeAt (w : World) (B : Nat) (l : List Int) : Prop :=
  ∃ g off c, Blk w B 40 #[.slice (some ⟨g, off, none⟩) l.length c] ∧ (g < B ∧ B ≤ g + 2) ∧ l.length ≤ c ∧ ∀ i n, l[i]? = some n → w.cell? ⟨g, off + i, none⟩ = some (.int .i64 n)
abbrev takeV (B : Nat) : Value := .func (.func 25) #[] #[.pointer (some ⟨B, 0, none⟩)]
theorem TakeAt.lt {w : World} {B : Nat} {l : List Int} (h : TakeAt w B l) : B < w.heap.size := by
  obtain ⟨g, off, c, h, _⟩ := h
  exact h.lt
theorem TakeAt.ext {w w' : World} {B : Nat} {l : List Int} (h : TakeAt w B l) (hx : Ext w w') : TakeAt w' B l := by
  obtain ⟨g, off, c, h1, h2, h3, h4⟩ := h
  exact ⟨g, off, c, h1.ext hx, h2, h3, fun i n hi => hx.cell (h4 i n hi)⟩
theorem TakeAt.only {w w' : World} {B d : Nat} {l : List Int} (h : TakeAt w B l) (hx : Only d w w') (hd : B < d ∨ d + 2 < B) : TakeAt w' B l := by
  obtain ⟨g, off, c, h1, h2, h3, h4⟩ := h
  exact ⟨g, off, c, h1.only hx (by omega), h2, h3, fun i n hi => hx.cell (show g ≠ d by omega) (h4 i n hi)⟩
set_option maxHeartbeats 2000000 in
set_option maxRecDepth 100000 in
theorem take_of (B : Nat) (l : List Int) (w : World) (h : TakeAt w B l) : Calls Tryd.prog 25 #[.pointer (some ⟨B, 0, none⟩)] w fun e w' => e = .returned (.tuple #[.int .i64 (l.headD 0), .bool (!l.isEmpty)]) ∧ TakeAt w' B l.tail ∧ Only B w w' := by
  obtain ⟨g, off, c, h1, h2, h3, h4⟩ := h
  have k0 : w.cell? ⟨B, 0, none⟩ = some (.slice (some ⟨g, off, none⟩) l.length c) := h1.cell 0
  have f0 := h1.frozen 0
  have H := Lib.hid (And.intro h1 (And.intro h2 (And.intro h3 h4))); clear h1 h2 h3 h4
  cases l with
  | nil =>
    go_enter Tryd.func25, Tryd.ntmps25
    go_wp2
    go_ret2
    exact ⟨rfl, ⟨g, off, c, H.out⟩, Only.refl B _⟩
  | cons x t =>
    have hc : t.length + 1 ≤ c := H.out.2.2.1
    have kx : w.cell? ⟨g, off, none⟩ = some (.int .i64 x) := H.out.2.2.2 0 x rfl
    simp only [List.length_cons] at k0
    generalize hn : t.length = n at k0 hc
    have HN := Lib.hid hn; clear hn
    by_cases hc1 : c = 1
    · subst hc1
      obtain rfl : n = 0 := by omega
      have hs := Blk.set_ H.out.1 0 (.slice (some ⟨g, off, none⟩) 0 0)
      have ho := (Only.refl B w).setCell (i := 0) (.slice (some ⟨g, off, none⟩) 0 0)
      have HS := Lib.hid (And.intro hs ho); clear hs ho
      obtain rfl : t = [] := List.eq_nil_of_length_eq_zero HN.out
      go_enter Tryd.func25, Tryd.ntmps25
      go_wp2
      go_ret2
      exact ⟨rfl, ⟨g, off, 0, HS.out.1, H.out.2.1, Nat.le_refl _, fun i y hi => by cases hi⟩, HS.out.2⟩
    · have hs := Blk.set_ H.out.1 0 (.slice (some ⟨g, off + 1, none⟩) n (c - 1))
      have ho := (Only.refl B w).setCell (i := 0) (.slice (some ⟨g, off + 1, none⟩) n (c - 1))
      have HS := Lib.hid (And.intro hs ho); clear hs ho
      go_enter Tryd.func25, Tryd.ntmps25
      go_wp2
      go_ret2
      refine ⟨rfl, ⟨g, off + 1, c - 1, ?_, H.out.2.1, by simp only [List.tail_cons]; rw [HN.out]; omega, fun i y hi => ?_⟩, HS.out.2⟩
      · simp only [List.tail_cons]; rw [HN.out]; exact HS.out.1
      · have := H.out.2.2.2 (i + 1) y hi
        rw [show off + 1 + i = off + (i + 1) by omega]
        exact HS.out.2.cell (Nat.ne_of_lt H.out.2.1.1) this
set_option maxHeartbeats 4000000 in
set_option maxRecDepth 100000 in
theorem chosen_nil (was : Int) (B : Nat) (w : World) (h : TakeAt w B []) : Calls Tryd.prog 26 #[.int .u8 was, takeV B] w fun e w' => e = .returned (.int .u8 (chosenP was []).1) ∧ TakeAt w' B (chosenP was []).2 ∧ Only B w w' := by
  have T0 := Lib.hid (And.intro h (Only.refl B w)); clear h
  obtain ⟨R, hR⟩ : ∃ R, chosenP was [] = R := ⟨_, rfl⟩
  rw [hR]
  have HR := Lib.hid (show R = (was, []) by rw [← hR]; rfl); clear hR
  go_enter Tryd.func26, Tryd.ntmps26
  go_wp2_with fail
  refine (take_of B [] _ T0.out.1).mono ?_
  rintro e w1 ⟨rfl, ht, ho⟩
  have T1 := Lib.hid (And.intro ht (T0.out.2.trans ho)); clear ht ho
  go_wp2_with fail
  go_loopg [15] (([] : List Int).length + 1) (fun k u wr => ∃ (b : Bool) (m : List Int), u = .bool b ∧ Hid ((b = true ∧ k = m.length + 1 ∨ b = false ∧ k = 0 ∧ m = []) ∧ TakeAt wr B m ∧ Only B w wr))
  case atStart => exact ⟨true, ([] : List Int), rfl, .inl ⟨rfl, rfl⟩, T1.out⟩
  case round =>
    obtain ⟨b, m, rfl, hin⟩ := hrel
    cases b with
    | true =>
      have hk : gk = m.length + 1 := by rcases hin.out.1 with h | h; exact h.2; cases h.1
      have HK := Lib.hid hk; clear hk
      cases m with
      | nil =>
        go_wp2_with fail
        refine (take_of B [] _ hin.out.2.1).mono ?_
        rintro e w2 ⟨rfl, ht, ho⟩
        have T2 := Lib.hid (And.intro ht (hin.out.2.2.trans ho)); clear ht ho
        go_wp2
        go_roundg 0
        case measure => have := HK.out; omega
        case rel => exact ⟨false, [], rfl, .inr ⟨rfl, rfl, rfl⟩, T2.out⟩
      | cons z m =>
        go_wp2_with fail
        refine (take_of B (z :: m) _ hin.out.2.1).mono ?_
        rintro e w2 ⟨rfl, ht, ho⟩
        have T2 := Lib.hid (And.intro ht (hin.out.2.2.trans ho)); clear ht ho
        go_wp2
        go_roundg (m.length + 1)
        case measure => have := HK.out; simp at this; omega
        case rel => exact ⟨true, m, rfl, .inl ⟨rfl, rfl⟩, T2.out⟩
    | false =>
      have hm : m = [] := by rcases hin.out.1 with h | h; cases h.1; exact h.2.2
      have HM := Lib.hid hm; clear hm
      go_wp2
      go_ret
      exact ⟨by rw [HR.out]; rfl, by rw [HR.out]; exact HM.out ▸ hin.out.2.1, hin.out.2.2⟩
set_option maxHeartbeats 4000000 in
set_option maxRecDepth 100000 in
theorem chosen_other (was : Int) (B : Nat) (x : Int) (t : List Int) (w : World) (h : TakeAt w B (x :: t)) (h5 : x ≠ 5) (h2 : x ≠ 2) : Calls Tryd.prog 26 #[.int .u8 was, takeV B] w fun e w' => e = .returned (.int .u8 (chosenP was (x :: t)).1) ∧ TakeAt w' B (chosenP was (x :: t)).2 ∧ Only B w w' := by
  have T0 := Lib.hid (And.intro h (Only.refl B w)); clear h
  obtain ⟨R, hR⟩ : ∃ R, chosenP was (x :: t) = R := ⟨_, rfl⟩
  rw [hR]
  have HR := Lib.hid (show R = (was, []) by rw [← hR]; simp only [chosenP]; rw [if_neg h5, if_neg h2]); clear hR
  go_enter Tryd.func26, Tryd.ntmps26
  have e5 : (x == 5) = false := by simp [h5]
  have e2 : (x == 2) = false := by simp [h2]
  clear h5 h2
  go_wp2_with fail
  refine (take_of B (x :: t) _ T0.out.1).mono ?_
  rintro e w1 ⟨rfl, ht, ho⟩
  have T1 := Lib.hid (And.intro ht (T0.out.2.trans ho)); clear ht ho
  have hl : (x :: t).headD 0 = x := rfl
  go_wp2_with fail
  go_loopg [15] (t.length + 1) (fun k u wr => ∃ (b : Bool) (m : List Int), u = .bool b ∧ Hid ((b = true ∧ k = m.length + 1 ∨ b = false ∧ k = 0 ∧ m = []) ∧ TakeAt wr B m ∧ Only B w wr))
  case atStart => exact ⟨true, t, rfl, .inl ⟨rfl, rfl⟩, T1.out⟩
  case round =>
    obtain ⟨b, m, rfl, hin⟩ := hrel
    cases b with
    | true =>
      have hk : gk = m.length + 1 := by rcases hin.out.1 with h | h; exact h.2; cases h.1
      have HK := Lib.hid hk; clear hk
      cases m with
      | nil =>
        go_wp2_with fail
        refine (take_of B [] _ hin.out.2.1).mono ?_
        rintro e w2 ⟨rfl, ht, ho⟩
        have T2 := Lib.hid (And.intro ht (hin.out.2.2.trans ho)); clear ht ho
        go_wp2
        go_roundg 0
        case measure => have := HK.out; omega
        case rel => exact ⟨false, [], rfl, .inr ⟨rfl, rfl, rfl⟩, T2.out⟩
      | cons z m =>
        go_wp2_with fail
        refine (take_of B (z :: m) _ hin.out.2.1).mono ?_
        rintro e w2 ⟨rfl, ht, ho⟩
        have T2 := Lib.hid (And.intro ht (hin.out.2.2.trans ho)); clear ht ho
        go_wp2
        go_roundg (m.length + 1)
        case measure => have := HK.out; simp at this; omega
        case rel => exact ⟨true, m, rfl, .inl ⟨rfl, rfl⟩, T2.out⟩
    | false =>
      have hm : m = [] := by rcases hin.out.1 with h | h; cases h.1; exact h.2.2
      have HM := Lib.hid hm; clear hm
      go_wp2
      go_ret
      exact ⟨by rw [HR.out]; rfl, by rw [HR.out]; exact HM.out ▸ hin.out.2.1, hin.out.2.2⟩
set_option maxHeartbeats 4000000 in
set_option maxRecDepth 100000 in
theorem chosen_five (was : Int) (B : Nat) (w : World) (h : TakeAt w B [5]) : Calls Tryd.prog 26 #[.int .u8 was, takeV B] w fun e w' => e = .returned (.int .u8 (chosenP was [5]).1) ∧ TakeAt w' B (chosenP was [5]).2 ∧ Only B w w' := by
  have T0 := Lib.hid (And.intro h (Only.refl B w)); clear h
  obtain ⟨R, hR⟩ : ∃ R, chosenP was [5] = R := ⟨_, rfl⟩
  rw [hR]
  have HR := Lib.hid (show R = (was, []) by rw [← hR]; rfl); clear hR
  go_enter Tryd.func26, Tryd.ntmps26
  go_wp2_with fail
  refine (take_of B [5] _ T0.out.1).mono ?_
  rintro e w1 ⟨rfl, ht, ho⟩
  have T1 := Lib.hid (And.intro ht (T0.out.2.trans ho)); clear ht ho
  go_wp2_with fail
  refine (take_of B [] _ T1.out.1).mono ?_
  rintro e w2 ⟨rfl, ht, ho⟩
  have T2 := Lib.hid (And.intro ht (T1.out.2.trans ho)); clear ht ho
  go_wp2
  go_ret
  exact ⟨by rw [HR.out]; rfl, by rw [HR.out]; exact T2.out.1, T2.out.2⟩
set_option maxHeartbeats 4000000 in
set_option maxRecDepth 100000 in
theorem chosen_fiveN (was : Int) (B : Nat) (n : Int) (t : List Int) (w : World) (h : TakeAt w B (5 :: n :: t)) (hn : 0 ≤ n ∧ n ≤ 255) : Calls Tryd.prog 26 #[.int .u8 was, takeV B] w fun e w' => e = .returned (.int .u8 (chosenP was (5 :: n :: t)).1) ∧ TakeAt w' B (chosenP was (5 :: n :: t)).2 ∧ Only B w w' := by
  have T0 := Lib.hid (And.intro h (Only.refl B w)); clear h
  obtain ⟨R, hR⟩ : ∃ R, chosenP was (5 :: n :: t) = R := ⟨_, rfl⟩
  rw [hR]
  have HR := Lib.hid (show R = (colP n, t) by rw [← hR]; simp only [chosenP]; rw [if_pos True.intro, if_pos hn]); clear hR
  go_enter Tryd.func26, Tryd.ntmps26
  have c1 : 0 ≤ n := hn.1
  have c2 : n ≤ 255 := hn.2
  have HC := Lib.hid (fun V => colour_of n V hn.2)
  clear hn
  go_wp2_with fail
  refine (take_of B (5 :: n :: t) _ T0.out.1).mono ?_
  rintro e w1 ⟨rfl, ht, ho⟩
  have T1 := Lib.hid (And.intro ht (T0.out.2.trans ho)); clear ht ho
  go_wp2_with fail
  refine (take_of B (n :: t) _ T1.out.1).mono ?_
  rintro e w2 ⟨rfl, ht, ho⟩
  have T2 := Lib.hid (And.intro ht (T1.out.2.trans ho)); clear ht ho
  go_wp2_with fail
  refine (HC.out _).mono ?_
  rintro e w3 ⟨rfl, rfl⟩
  go_wp2
  go_ret
  exact ⟨by rw [HR.out]; rfl, by rw [HR.out]; exact T2.out.1, T2.out.2⟩
set_option maxHeartbeats 4000000 in
set_option maxRecDepth 100000 in
theorem chosen_fiveM (was : Int) (B : Nat) (n : Int) (t : List Int) (w : World) (h : TakeAt w B (5 :: n :: t)) (hn : ¬ (0 ≤ n ∧ n ≤ 255)) : Calls Tryd.prog 26 #[.int .u8 was, takeV B] w fun e w' => e = .returned (.int .u8 (chosenP was (5 :: n :: t)).1) ∧ TakeAt w' B (chosenP was (5 :: n :: t)).2 ∧ Only B w w' := by
  have T0 := Lib.hid (And.intro h (Only.refl B w)); clear h
  obtain ⟨R, hR⟩ : ∃ R, chosenP was (5 :: n :: t) = R := ⟨_, rfl⟩
  rw [hR]
  have HR := Lib.hid (show R = (was, t) by rw [← hR]; simp only [chosenP]; rw [if_pos True.intro, if_neg hn]); clear hR
  go_enter Tryd.func26, Tryd.ntmps26
  rcases (show n < 0 ∨ 255 < n by omega) with c1 | c1
  all_goals
    clear hn
    go_wp2_with fail
    refine (take_of B (5 :: n :: t) _ T0.out.1).mono ?_
    rintro e w1 ⟨rfl, ht, ho⟩
    have T1 := Lib.hid (And.intro ht (T0.out.2.trans ho)); clear ht ho
    go_wp2_with fail
    refine (take_of B (n :: t) _ T1.out.1).mono ?_
    rintro e w2 ⟨rfl, ht, ho⟩
    have T2 := Lib.hid (And.intro ht (T1.out.2.trans ho)); clear ht ho
    go_wp2
    go_ret
    exact ⟨by rw [HR.out]; rfl, by rw [HR.out]; exact T2.out.1, T2.out.2⟩
set_option maxHeartbeats 4000000 in
set_option maxRecDepth 100000 in
theorem chosen_two0 (was : Int) (B : Nat) (w : World) (h : TakeAt w B [2]) : Calls Tryd.prog 26 #[.int .u8 was, takeV B] w fun e w' => e = .returned (.int .u8 (chosenP was [2]).1) ∧ TakeAt w' B (chosenP was [2]).2 ∧ Only B w w' := by
  have T0 := Lib.hid (And.intro h (Only.refl B w)); clear h
  obtain ⟨R, hR⟩ : ∃ R, chosenP was [2] = R := ⟨_, rfl⟩
  rw [hR]
  have HR := Lib.hid (show R = (was, []) by rw [← hR]; rfl); clear hR
  go_enter Tryd.func26, Tryd.ntmps26
  go_wp2_with fail
  refine (take_of B [2] _ T0.out.1).mono ?_
  rintro e w1 ⟨rfl, ht, ho⟩
  have T1 := Lib.hid (And.intro ht (T0.out.2.trans ho)); clear ht ho
  go_wp2_with fail
  refine (take_of B [] _ T1.out.1).mono ?_
  rintro e w2 ⟨rfl, ht, ho⟩
  have T2 := Lib.hid (And.intro ht (T1.out.2.trans ho)); clear ht ho
  go_wp2_with fail
  refine (take_of B [] _ T2.out.1).mono ?_
  rintro e w3 ⟨rfl, ht, ho⟩
  have T3 := Lib.hid (And.intro ht (T2.out.2.trans ho)); clear ht ho
  go_wp2_with fail
  refine (take_of B [] _ T3.out.1).mono ?_
  rintro e w4 ⟨rfl, ht, ho⟩
  have T4 := Lib.hid (And.intro ht (T3.out.2.trans ho)); clear ht ho
  go_wp2
  go_ret
  exact ⟨by rw [HR.out]; rfl, by rw [HR.out]; exact T4.out.1, T4.out.2⟩
set_option maxHeartbeats 4000000 in
set_option maxRecDepth 100000 in
theorem chosen_two1 (was : Int) (B : Nat) (r : Int) (w : World) (h : TakeAt w B [2, r]) : Calls Tryd.prog 26 #[.int .u8 was, takeV B] w fun e w' => e = .returned (.int .u8 (chosenP was [2, r]).1) ∧ TakeAt w' B (chosenP was [2, r]).2 ∧ Only B w w' := by
  have T0 := Lib.hid (And.intro h (Only.refl B w)); clear h
  obtain ⟨R, hR⟩ : ∃ R, chosenP was [2, r] = R := ⟨_, rfl⟩
  rw [hR]
  have HR := Lib.hid (show R = (was, []) by rw [← hR]; rfl); clear hR
  go_enter Tryd.func26, Tryd.ntmps26
  go_wp2_with fail
  refine (take_of B [2, r] _ T0.out.1).mono ?_
  rintro e w1 ⟨rfl, ht, ho⟩
  have T1 := Lib.hid (And.intro ht (T0.out.2.trans ho)); clear ht ho
  go_wp2_with fail
  refine (take_of B [r] _ T1.out.1).mono ?_
  rintro e w2 ⟨rfl, ht, ho⟩
  have T2 := Lib.hid (And.intro ht (T1.out.2.trans ho)); clear ht ho
  go_wp2_with fail
  refine (take_of B [] _ T2.out.1).mono ?_
  rintro e w3 ⟨rfl, ht, ho⟩
  have T3 := Lib.hid (And.intro ht (T2.out.2.trans ho)); clear ht ho
  go_wp2_with fail
  refine (take_of B [] _ T3.out.1).mono ?_
  rintro e w4 ⟨rfl, ht, ho⟩
  have T4 := Lib.hid (And.intro ht (T3.out.2.trans ho)); clear ht ho
  go_wp2
  go_ret
  exact ⟨by rw [HR.out]; rfl, by rw [HR.out]; exact T4.out.1, T4.out.2⟩
set_option maxHeartbeats 4000000 in
set_option maxRecDepth 100000 in
theorem chosen_two2 (was : Int) (B : Nat) (r g : Int) (w : World) (h : TakeAt w B [2, r, g]) : Calls Tryd.prog 26 #[.int .u8 was, takeV B] w fun e w' => e = .returned (.int .u8 (chosenP was [2, r, g]).1) ∧ TakeAt w' B (chosenP was [2, r, g]).2 ∧ Only B w w' := by
  have T0 := Lib.hid (And.intro h (Only.refl B w)); clear h
  obtain ⟨R, hR⟩ : ∃ R, chosenP was [2, r, g] = R := ⟨_, rfl⟩
  rw [hR]
  have HR := Lib.hid (show R = (was, []) by rw [← hR]; rfl); clear hR
  go_enter Tryd.func26, Tryd.ntmps26
  go_wp2_with fail
  refine (take_of B [2, r, g] _ T0.out.1).mono ?_
  rintro e w1 ⟨rfl, ht, ho⟩
  have T1 := Lib.hid (And.intro ht (T0.out.2.trans ho)); clear ht ho
  go_wp2_with fail
  refine (take_of B [r, g] _ T1.out.1).mono ?_
  rintro e w2 ⟨rfl, ht, ho⟩
  have T2 := Lib.hid (And.intro ht (T1.out.2.trans ho)); clear ht ho
  go_wp2_with fail
  refine (take_of B [g] _ T2.out.1).mono ?_
  rintro e w3 ⟨rfl, ht, ho⟩
  have T3 := Lib.hid (And.intro ht (T2.out.2.trans ho)); clear ht ho
  go_wp2_with fail
  refine (take_of B [] _ T3.out.1).mono ?_
  rintro e w4 ⟨rfl, ht, ho⟩
  have T4 := Lib.hid (And.intro ht (T3.out.2.trans ho)); clear ht ho
  go_wp2
  go_ret
  exact ⟨by rw [HR.out]; rfl, by rw [HR.out]; exact T4.out.1, T4.out.2⟩
set_option maxHeartbeats 4000000 in
set_option maxRecDepth 100000 in
theorem chosen_two3 (was : Int) (B : Nat) (r g b : Int) (t : List Int) (w : World) (h : TakeAt w B (2 :: r :: g :: b :: t)) : Calls Tryd.prog 26 #[.int .u8 was, takeV B] w fun e w' => e = .returned (.int .u8 (chosenP was (2 :: r :: g :: b :: t)).1) ∧ TakeAt w' B (chosenP was (2 :: r :: g :: b :: t)).2 ∧ Only B w w' := by
  have T0 := Lib.hid (And.intro h (Only.refl B w)); clear h
  obtain ⟨R, hR⟩ : ∃ R, chosenP was (2 :: r :: g :: b :: t) = R := ⟨_, rfl⟩
  rw [hR]
  have HR := Lib.hid (show R = (rgbP r g b, t) by rw [← hR]; rfl); clear hR
  go_enter Tryd.func26, Tryd.ntmps26
  go_wp2_with fail
  refine (take_of B (2 :: r :: g :: b :: t) _ T0.out.1).mono ?_
  rintro e w1 ⟨rfl, ht, ho⟩
  have T1 := Lib.hid (And.intro ht (T0.out.2.trans ho)); clear ht ho
  go_wp2_with fail
  refine (take_of B (r :: g :: b :: t) _ T1.out.1).mono ?_
  rintro e w2 ⟨rfl, ht, ho⟩
  have T2 := Lib.hid (And.intro ht (T1.out.2.trans ho)); clear ht ho
  go_wp2_with fail
  refine (take_of B (g :: b :: t) _ T2.out.1).mono ?_
  rintro e w3 ⟨rfl, ht, ho⟩
  have T3 := Lib.hid (And.intro ht (T2.out.2.trans ho)); clear ht ho
  go_wp2_with fail
  refine (take_of B (b :: t) _ T3.out.1).mono ?_
  rintro e w4 ⟨rfl, ht, ho⟩
  have T4 := Lib.hid (And.intro ht (T3.out.2.trans ho)); clear ht ho
  go_wp2_with fail
  refine (Colour_of r g b _).mono ?_
  rintro e w5 ⟨rfl, hx5⟩
  have T5 := Lib.hid (And.intro (T4.out.1.ext hx5) (T4.out.2.ext hx5)); clear hx5
  go_wp2
  go_ret
  exact ⟨by rw [HR.out]; rfl, by rw [HR.out]; exact T5.out.1, T5.out.2⟩
theorem chosen_of (was : Int) (B : Nat) (l : List Int) (w : World) (h : TakeAt w B l) : Calls Tryd.prog 26 #[.int .u8 was, takeV B] w fun e w' => e = .returned (.int .u8 (chosenP was l).1) ∧ TakeAt w' B (chosenP was l).2 ∧ Only B w w' := by
  match l, h with
  | [], h => exact chosen_nil was B w h
  | x :: t, h =>
    by_cases h5 : x = 5
    · subst h5
      match t, h with
      | [], h => exact chosen_five was B w h
      | n :: t, h =>
        by_cases hn : 0 ≤ n ∧ n ≤ 255
        · exact chosen_fiveN was B n t w h hn
        · exact chosen_fiveM was B n t w h hn
    · by_cases h2 : x = 2
      · subst h2
        match t, h with
        | [], h => exact chosen_two0 was B w h
        | [r], h => exact chosen_two1 was B r w h
        | [r, g], h => exact chosen_two2 was B r g w h
        | r :: g :: b :: t, h => exact chosen_two3 was B r g b t w h
      · exact chosen_other was B x t w h h5 h2
end Go.Proofs.YtgnknliaeoblhabDoor
namespace Go.Proofs.YtgnknliaeoblhabDoor
open Go Go.RowKit

theorem infoCell4 : (Tryd.prog.info? 23).map (·.size) = some 4 := by kernel_rfl
/-- A cell alone that is handed back. -/
theorem ret_cell1 {fn : Func} {p : Tmp} (hr : fn.results = #[.cell p 23]) {Q : Ending → World → Prop} {a : Act} {w : World} {G : Nat} {c : Cel} (hd : a.defers = []) (hp : a.tmps.getD p undef = .pointer (some ⟨G, 0, none⟩))
    (hb : Blk w G 23 #[.int .i32 c.r, .int .u8 c.f, .int .u8 c.b, .int .u8 c.a]) (hq : Q (.returned c.val) w) : bodyPost Tryd.prog fn Q .ret a w := by
  obtain ⟨tm, df⟩ := a
  simp only at hd hp
  subst hd
  exact bodyPost_ret (results_cell_row hr _ _ G 23 _ (0, 0) _ hp hb Tryd.underlying23 rfl infoCell4) rfl hq
/-- Two boxes: the pen, and what is handed back. -/
structure Two (w W : World) (B : Nat) (l : List Int) (c : Cel) : Prop where
  take : TakeAt W B l
  only : Only B w W
  pen : Blk W w.heap.size 23 #[.int .i32 c.r, .int .u8 c.f, .int .u8 c.b, .int .u8 c.a]
  out : Blk W (w.heap.size + 1) 23 #[.int .i32 0, .int .u8 0, .int .u8 0, .int .u8 0]
theorem Only.set_new {B d : Nat} {w W : World} (h : Only B w W) (hd : w.heap.size ≤ d) (i : Nat) (v : Value) : Only B w (W.setCell ⟨d, i, none⟩ v) :=
  ⟨h.os, h.tape, h.output, by simpa [World.setCell] using h.size, fun k hk hl => (Below.heap_setCell _ _ _ _ (show k ≠ d by omega)).trans (h.block k hk hl)⟩
theorem Two.start {w : World} {B : Nat} {l : List Int} (h : TakeAt w B l) (r f b a : Int) : Two w ((w.alloc (.cells #[.int .i32 r, .int .u8 f, .int .u8 b, .int .u8 a] 23)).alloc (.cells #[.int .i32 0, .int .u8 0, .int .u8 0, .int .u8 0] 23)) B l ⟨r, f, b, a⟩ :=
  ⟨h.ext (((Ext.refl w).alloc _).alloc _), ((Only.refl B w).alloc _).alloc _, Blk.ext (Go.heap_alloc_new w _) ((Ext.refl _).alloc _), heap_two _ _ _⟩
theorem Two.next {w W W' : World} {B : Nat} {l m : List Int} {c : Cel} (h : Two w W B l c) (hB : B < w.heap.size) (ht : TakeAt W' B m) (ho : Only B W W') : Two w W' B m c :=
  ⟨ht, h.only.trans ho, h.pen.only ho (by omega), h.out.only ho (by omega)⟩
/-- The pen's cells turned: the world behind it, and what it hands back. -/
theorem Two.ended {w W : World} {B : Nat} {l : List Int} {r f b a : Int} (h : Two w W B l ⟨r, f, b, a⟩) (hB : B < w.heap.size) (i : Nat) (v : Value) (c : Cel) (hc : (#[.int .i32 r, .int .u8 f, .int .u8 b, .int .u8 a] : Array Value).setIfInBounds i v = #[.int .i32 c.r, .int .u8 c.f, .int .u8 c.b, .int .u8 c.a]) : Two w (W.setCell ⟨w.heap.size, i, none⟩ v) B l c := by
  have ho := (Only.refl w.heap.size W).setCell (i := i) v
  refine ⟨h.take.only ho (.inl hB), h.only.set_new (Nat.le_refl _) i v, ?_, h.out.only ho (by omega)⟩
  have := Blk.set_ h.pen i v
  rwa [hc] at this
theorem Two.told {w W : World} {B : Nat} {l : List Int} {c : Cel} (h : Two w W B l c) (hB : B < w.heap.size) (r f b a : Int) :
    Blk ((((W.setCell ⟨w.heap.size + 1, 0, none⟩ (.int .i32 r)).setCell ⟨w.heap.size + 1, 1, none⟩ (.int .u8 f)).setCell ⟨w.heap.size + 1, 2, none⟩ (.int .u8 b)).setCell ⟨w.heap.size + 1, 3, none⟩ (.int .u8 a)) (w.heap.size + 1) 23 #[.int .i32 r, .int .u8 f, .int .u8 b, .int .u8 a] ∧
    TakeAt ((((W.setCell ⟨w.heap.size + 1, 0, none⟩ (.int .i32 r)).setCell ⟨w.heap.size + 1, 1, none⟩ (.int .u8 f)).setCell ⟨w.heap.size + 1, 2, none⟩ (.int .u8 b)).setCell ⟨w.heap.size + 1, 3, none⟩ (.int .u8 a)) B l ∧
    Only B w ((((W.setCell ⟨w.heap.size + 1, 0, none⟩ (.int .i32 r)).setCell ⟨w.heap.size + 1, 1, none⟩ (.int .u8 f)).setCell ⟨w.heap.size + 1, 2, none⟩ (.int .u8 b)).setCell ⟨w.heap.size + 1, 3, none⟩ (.int .u8 a)) := by
  have ho := ((((Only.refl (w.heap.size + 1) W).setCell (i := 0) (.int .i32 r)).setCell (i := 1) (.int .u8 f)).setCell (i := 2) (.int .u8 b)).setCell (i := 3) (.int .u8 a)
  exact ⟨(((h.out.set_ 0 (.int .i32 r)).set_ 1 (.int .u8 f)).set_ 2 (.int .u8 b)).set_ 3 (.int .u8 a), h.take.only ho (.inl (by omega)), (((h.only.set_new (Nat.le_succ _) 0 _).set_new (Nat.le_succ _) 1 _).set_new (Nat.le_succ _) 2 _).set_new (Nat.le_succ _) 3 _⟩
theorem Two.ext {w W W' : World} {B : Nat} {l : List Int} {c : Cel} (h : Two w W B l c) (hx : Ext W W') : Two w W' B l c :=
  ⟨h.take.ext hx, h.only.ext hx, h.pen.ext hx, h.out.ext hx⟩
theorem Two.fin {w W : World} {B : Nat} {l : List Int} {r f b a : Int} (h : Two w W B l ⟨r, f, b, a⟩) (hB : B < w.heap.size) (i : Nat) (v : Value) (c : Cel) (hc : (#[.int .i32 r, .int .u8 f, .int .u8 b, .int .u8 a] : Array Value).setIfInBounds i v = #[.int .i32 c.r, .int .u8 c.f, .int .u8 c.b, .int .u8 c.a]) :
    Blk (((((W.setCell ⟨w.heap.size, i, none⟩ v).setCell ⟨w.heap.size + 1, 0, none⟩ (.int .i32 c.r)).setCell ⟨w.heap.size + 1, 1, none⟩ (.int .u8 c.f)).setCell ⟨w.heap.size + 1, 2, none⟩ (.int .u8 c.b)).setCell ⟨w.heap.size + 1, 3, none⟩ (.int .u8 c.a)) (w.heap.size + 1) 23 #[.int .i32 c.r, .int .u8 c.f, .int .u8 c.b, .int .u8 c.a] ∧
    TakeAt (((((W.setCell ⟨w.heap.size, i, none⟩ v).setCell ⟨w.heap.size + 1, 0, none⟩ (.int .i32 c.r)).setCell ⟨w.heap.size + 1, 1, none⟩ (.int .u8 c.f)).setCell ⟨w.heap.size + 1, 2, none⟩ (.int .u8 c.b)).setCell ⟨w.heap.size + 1, 3, none⟩ (.int .u8 c.a)) B l ∧
    Only B w (((((W.setCell ⟨w.heap.size, i, none⟩ v).setCell ⟨w.heap.size + 1, 0, none⟩ (.int .i32 c.r)).setCell ⟨w.heap.size + 1, 1, none⟩ (.int .u8 c.f)).setCell ⟨w.heap.size + 1, 2, none⟩ (.int .u8 c.b)).setCell ⟨w.heap.size + 1, 3, none⟩ (.int .u8 c.a)) :=
  Two.told (h.ended hB i v c hc) hB c.r c.f c.b c.a
/-- Both boxes new, whatever they hold. -/
theorem fold_told {w : World} {B : Nat} {l : List Int} (h : TakeAt w B l) (xs ys : Array Value) : Blk ((w.alloc (.cells xs 23)).alloc (.cells ys 23)) (w.heap.size + 1) 23 ys ∧ TakeAt ((w.alloc (.cells xs 23)).alloc (.cells ys 23)) B l ∧ Only B w ((w.alloc (.cells xs 23)).alloc (.cells ys 23)) :=
  ⟨heap_two _ _ _, h.ext (((Ext.refl w).alloc _).alloc _), ((Only.refl B w).alloc _).alloc _⟩
set_option maxHeartbeats 4000000 in
set_option maxRecDepth 100000 in
theorem obeyed_zero (r f b a : Int) (B : Nat) (l : List Int) (w : World) (h : TakeAt w B l) : Calls Tryd.prog 18 #[.agg #[.int .i32 r, .int .u8 f, .int .u8 b, .int .u8 a], .int .i64 0, takeV B] w fun e w' => e = .returned (Cel.val ⟨r, 0, 0, 0⟩) ∧ TakeAt w' B l ∧ Only B w w' := by
  have hB := h.lt
  have T := Lib.hid h; clear h hB
  go_enter Tryd.func18, Tryd.ntmps18
  go_wp2
  exact ret_cell1 rfl rfl rfl (fold_told T.out _ _).1 ⟨rfl, (fold_told T.out _ _).2⟩
set_option maxHeartbeats 4000000 in
set_option maxRecDepth 100000 in
theorem obeyed_39 (r f b a : Int) (B : Nat) (l : List Int) (w : World) (h : TakeAt w B l) : Calls Tryd.prog 18 #[.agg #[.int .i32 r, .int .u8 f, .int .u8 b, .int .u8 a], .int .i64 39, takeV B] w fun e w' => e = .returned (Cel.val ⟨r, 0, b, a⟩) ∧ TakeAt w' B l ∧ Only B w w' := by
  have hB := h.lt
  have T := Lib.hid h; clear h hB
  go_enter Tryd.func18, Tryd.ntmps18
  go_wp2
  exact ret_cell1 rfl rfl rfl (fold_told T.out _ _).1 ⟨rfl, (fold_told T.out _ _).2⟩
set_option maxHeartbeats 4000000 in
set_option maxRecDepth 100000 in
theorem obeyed_49 (r f b a : Int) (B : Nat) (l : List Int) (w : World) (h : TakeAt w B l) : Calls Tryd.prog 18 #[.agg #[.int .i32 r, .int .u8 f, .int .u8 b, .int .u8 a], .int .i64 49, takeV B] w fun e w' => e = .returned (Cel.val ⟨r, f, 0, a⟩) ∧ TakeAt w' B l ∧ Only B w w' := by
  have hB := h.lt
  have T := Lib.hid h; clear h hB
  go_enter Tryd.func18, Tryd.ntmps18
  go_wp2
  exact ret_cell1 rfl rfl rfl (fold_told T.out _ _).1 ⟨rfl, (fold_told T.out _ _).2⟩
set_option maxHeartbeats 4000000 in
set_option maxRecDepth 100000 in
theorem obeyed_30 (r f b a : Int) (n : Int) (B : Nat) (l : List Int) (w : World) (h : TakeAt w B l) (hn : 30 ≤ n ∧ n ≤ 37) : Calls Tryd.prog 18 #[.agg #[.int .i32 r, .int .u8 f, .int .u8 b, .int .u8 a], .int .i64 n, takeV B] w fun e w' => e = .returned (Cel.val ⟨r, colP (n - 30), b, a⟩) ∧ TakeAt w' B l ∧ Only B w w' := by
  have hB := h.lt
  have T := Lib.hid h; clear h hB
  have e0 : (n == 0) = false := by simp; omega
  have e38 : (n == 38) = false := by simp; omega
  have e39 : (n == 39) = false := by simp; omega
  have e48 : (n == 48) = false := by simp; omega
  have e49 : (n == 49) = false := by simp; omega
  have d30 : decide (30 ≤ n) = true := decide_eq_true (by omega)
  have d37 : decide (n ≤ 37) = true := decide_eq_true (by omega)
  have d40 : decide (40 ≤ n) = false := decide_eq_false (by omega)
  have d90 : decide (90 ≤ n) = false := decide_eq_false (by omega)
  have d100 : decide (100 ≤ n) = false := decide_eq_false (by omega)
  have HC := Lib.hid (fun V => colour_of (n - 30) V (by omega))
  have hsub : wrap64 (n - 30) = n - 30 := by unfold wrap64; omega
  generalize hm : n - 30 = m at HC hsub ⊢
  generalize colP m = q at HC ⊢
  clear hn
  go_enter Tryd.func18, Tryd.ntmps18
  go_wp2_with fail
  refine (HC.out _).mono ?_
  rintro e w1 ⟨rfl, rfl⟩
  go_wp2
  exact ret_cell1 rfl rfl rfl (fold_told T.out _ _).1 ⟨rfl, (fold_told T.out _ _).2⟩
set_option maxHeartbeats 4000000 in
set_option maxRecDepth 100000 in
theorem obeyed_40 (r f b a : Int) (n : Int) (B : Nat) (l : List Int) (w : World) (h : TakeAt w B l) (hn : 40 ≤ n ∧ n ≤ 47) : Calls Tryd.prog 18 #[.agg #[.int .i32 r, .int .u8 f, .int .u8 b, .int .u8 a], .int .i64 n, takeV B] w fun e w' => e = .returned (Cel.val ⟨r, f, colP (n - 40), a⟩) ∧ TakeAt w' B l ∧ Only B w w' := by
  have hB := h.lt
  have T := Lib.hid h; clear h hB
  have e0 : (n == 0) = false := by simp; omega
  have e38 : (n == 38) = false := by simp; omega
  have e39 : (n == 39) = false := by simp; omega
  have e48 : (n == 48) = false := by simp; omega
  have e49 : (n == 49) = false := by simp; omega
  have d30 : decide (30 ≤ n) = true := decide_eq_true (by omega)
  have d37 : decide (n ≤ 37) = false := decide_eq_false (by omega)
  have d40 : decide (40 ≤ n) = true := decide_eq_true (by omega)
  have d47 : decide (n ≤ 47) = true := decide_eq_true (by omega)
  have d90 : decide (90 ≤ n) = false := decide_eq_false (by omega)
  have d100 : decide (100 ≤ n) = false := decide_eq_false (by omega)
  have HC := Lib.hid (fun V => colour_of (n - 40) V (by omega))
  have hsub : wrap64 (n - 40) = n - 40 := by unfold wrap64; omega
  generalize hm : n - 40 = m at HC hsub ⊢
  generalize colP m = q at HC ⊢
  clear hn
  go_enter Tryd.func18, Tryd.ntmps18
  go_wp2_with fail
  refine (HC.out _).mono ?_
  rintro e w1 ⟨rfl, rfl⟩
  go_wp2
  exact ret_cell1 rfl rfl rfl (fold_told T.out _ _).1 ⟨rfl, (fold_told T.out _ _).2⟩
set_option maxHeartbeats 4000000 in
set_option maxRecDepth 100000 in
theorem obeyed_90 (r f b a : Int) (n : Int) (B : Nat) (l : List Int) (w : World) (h : TakeAt w B l) (hn : 90 ≤ n ∧ n ≤ 97) : Calls Tryd.prog 18 #[.agg #[.int .i32 r, .int .u8 f, .int .u8 b, .int .u8 a], .int .i64 n, takeV B] w fun e w' => e = .returned (Cel.val ⟨r, colP (n - 82), b, a⟩) ∧ TakeAt w' B l ∧ Only B w w' := by
  have hB := h.lt
  have T := Lib.hid h; clear h hB
  have e0 : (n == 0) = false := by simp; omega
  have e38 : (n == 38) = false := by simp; omega
  have e39 : (n == 39) = false := by simp; omega
  have e48 : (n == 48) = false := by simp; omega
  have e49 : (n == 49) = false := by simp; omega
  have d30 : decide (30 ≤ n) = true := decide_eq_true (by omega)
  have d37 : decide (n ≤ 37) = false := decide_eq_false (by omega)
  have d40 : decide (40 ≤ n) = true := decide_eq_true (by omega)
  have d47 : decide (n ≤ 47) = false := decide_eq_false (by omega)
  have d90 : decide (90 ≤ n) = true := decide_eq_true (by omega)
  have d97 : decide (n ≤ 97) = true := decide_eq_true (by omega)
  have d100 : decide (100 ≤ n) = false := decide_eq_false (by omega)
  have HC := Lib.hid (fun V => colour_of (n - 82) V (by omega))
  have hsub : wrap64 (n - 82) = n - 82 := by unfold wrap64; omega
  generalize hm : n - 82 = m at HC hsub ⊢
  generalize colP m = q at HC ⊢
  clear hn
  go_enter Tryd.func18, Tryd.ntmps18
  go_wp2_with fail
  refine (HC.out _).mono ?_
  rintro e w1 ⟨rfl, rfl⟩
  go_wp2
  exact ret_cell1 rfl rfl rfl (fold_told T.out _ _).1 ⟨rfl, (fold_told T.out _ _).2⟩
set_option maxHeartbeats 4000000 in
set_option maxRecDepth 100000 in
theorem obeyed_100 (r f b a : Int) (n : Int) (B : Nat) (l : List Int) (w : World) (h : TakeAt w B l) (hn : 100 ≤ n ∧ n ≤ 107) : Calls Tryd.prog 18 #[.agg #[.int .i32 r, .int .u8 f, .int .u8 b, .int .u8 a], .int .i64 n, takeV B] w fun e w' => e = .returned (Cel.val ⟨r, f, colP (n - 92), a⟩) ∧ TakeAt w' B l ∧ Only B w w' := by
  have hB := h.lt
  have T := Lib.hid h; clear h hB
  have e0 : (n == 0) = false := by simp; omega
  have e38 : (n == 38) = false := by simp; omega
  have e39 : (n == 39) = false := by simp; omega
  have e48 : (n == 48) = false := by simp; omega
  have e49 : (n == 49) = false := by simp; omega
  have d30 : decide (30 ≤ n) = true := decide_eq_true (by omega)
  have d37 : decide (n ≤ 37) = false := decide_eq_false (by omega)
  have d40 : decide (40 ≤ n) = true := decide_eq_true (by omega)
  have d47 : decide (n ≤ 47) = false := decide_eq_false (by omega)
  have d90 : decide (90 ≤ n) = true := decide_eq_true (by omega)
  have d97 : decide (n ≤ 97) = false := decide_eq_false (by omega)
  have d100 : decide (100 ≤ n) = true := decide_eq_true (by omega)
  have d107 : decide (n ≤ 107) = true := decide_eq_true (by omega)
  have HC := Lib.hid (fun V => colour_of (n - 92) V (by omega))
  have hsub : wrap64 (n - 92) = n - 92 := by unfold wrap64; omega
  generalize hm : n - 92 = m at HC hsub ⊢
  generalize colP m = q at HC ⊢
  clear hn
  go_enter Tryd.func18, Tryd.ntmps18
  go_wp2_with fail
  refine (HC.out _).mono ?_
  rintro e w1 ⟨rfl, rfl⟩
  go_wp2
  exact ret_cell1 rfl rfl rfl (fold_told T.out _ _).1 ⟨rfl, (fold_told T.out _ _).2⟩
set_option maxHeartbeats 4000000 in
set_option maxRecDepth 100000 in
theorem obeyed_38 (r f b a : Int) (B : Nat) (l : List Int) (w : World) (h : TakeAt w B l) : Calls Tryd.prog 18 #[.agg #[.int .i32 r, .int .u8 f, .int .u8 b, .int .u8 a], .int .i64 38, takeV B] w fun e w' => e = .returned (Cel.val ⟨r, (chosenP f l).1, b, a⟩) ∧ TakeAt w' B (chosenP f l).2 ∧ Only B w w' := by
  have hB := h.lt
  have T := Lib.hid (Two.start h r f b a)
  have HB := Lib.hid hB; clear h hB
  have HC := Lib.hid (chosen_of f B l _ T.out.take)
  generalize chosenP f l = q at HC ⊢
  obtain ⟨q, m⟩ := q
  go_enter Tryd.func18, Tryd.ntmps18
  go_wp2_with fail
  refine HC.out.mono ?_
  rintro e w1 ⟨rfl, ht, ho⟩
  have T2 := Lib.hid (T.out.next HB.out ht ho); clear ht ho
  have k0 : _ = some (Value.int .i32 r) := T2.out.pen.cell 0
  have f0 := T2.out.pen.frozen 0
  have k1 : _ = some (Value.int .u8 f) := T2.out.pen.cell 1
  have f1 := T2.out.pen.frozen 1
  have k2 : _ = some (Value.int .u8 b) := T2.out.pen.cell 2
  have f2 := T2.out.pen.frozen 2
  have k3 : _ = some (Value.int .u8 a) := T2.out.pen.cell 3
  have f3 := T2.out.pen.frozen 3
  have o0 : _ = some (Value.int .i32 0) := T2.out.out.cell 0
  have p0 := T2.out.out.frozen 0
  have o1 : _ = some (Value.int .u8 0) := T2.out.out.cell 1
  have p1 := T2.out.out.frozen 1
  have o2 : _ = some (Value.int .u8 0) := T2.out.out.cell 2
  have p2 := T2.out.out.frozen 2
  have o3 : _ = some (Value.int .u8 0) := T2.out.out.cell 3
  have p3 := T2.out.out.frozen 3
  go_wp2
  exact ret_cell1 rfl rfl rfl (T2.out.fin HB.out 1 (.int .u8 q) ⟨r, q, b, a⟩ rfl).1 ⟨rfl, (T2.out.fin HB.out 1 (.int .u8 q) ⟨r, q, b, a⟩ rfl).2⟩
set_option maxHeartbeats 4000000 in
set_option maxRecDepth 100000 in
theorem obeyed_48 (r f b a : Int) (B : Nat) (l : List Int) (w : World) (h : TakeAt w B l) : Calls Tryd.prog 18 #[.agg #[.int .i32 r, .int .u8 f, .int .u8 b, .int .u8 a], .int .i64 48, takeV B] w fun e w' => e = .returned (Cel.val ⟨r, f, (chosenP b l).1, a⟩) ∧ TakeAt w' B (chosenP b l).2 ∧ Only B w w' := by
  have hB := h.lt
  have T := Lib.hid (Two.start h r f b a)
  have HB := Lib.hid hB; clear h hB
  have HC := Lib.hid (chosen_of b B l _ T.out.take)
  generalize chosenP b l = q at HC ⊢
  obtain ⟨q, m⟩ := q
  go_enter Tryd.func18, Tryd.ntmps18
  go_wp2_with fail
  refine HC.out.mono ?_
  rintro e w1 ⟨rfl, ht, ho⟩
  have T2 := Lib.hid (T.out.next HB.out ht ho); clear ht ho
  have k0 : _ = some (Value.int .i32 r) := T2.out.pen.cell 0
  have f0 := T2.out.pen.frozen 0
  have k1 : _ = some (Value.int .u8 f) := T2.out.pen.cell 1
  have f1 := T2.out.pen.frozen 1
  have k2 : _ = some (Value.int .u8 b) := T2.out.pen.cell 2
  have f2 := T2.out.pen.frozen 2
  have k3 : _ = some (Value.int .u8 a) := T2.out.pen.cell 3
  have f3 := T2.out.pen.frozen 3
  have o0 : _ = some (Value.int .i32 0) := T2.out.out.cell 0
  have p0 := T2.out.out.frozen 0
  have o1 : _ = some (Value.int .u8 0) := T2.out.out.cell 1
  have p1 := T2.out.out.frozen 1
  have o2 : _ = some (Value.int .u8 0) := T2.out.out.cell 2
  have p2 := T2.out.out.frozen 2
  have o3 : _ = some (Value.int .u8 0) := T2.out.out.cell 3
  have p3 := T2.out.out.frozen 3
  go_wp2
  exact ret_cell1 rfl rfl rfl (T2.out.fin HB.out 2 (.int .u8 q) ⟨r, f, q, a⟩ rfl).1 ⟨rfl, (T2.out.fin HB.out 2 (.int .u8 q) ⟨r, f, q, a⟩ rfl).2⟩
set_option maxHeartbeats 4000000 in
set_option maxRecDepth 100000 in
theorem obeyed_n0 (r f b a : Int) (n : Int) (B : Nat) (l : List Int) (w : World) (h : TakeAt w B l) (hW : Ways w) (hn : n < 0) : Calls Tryd.prog 18 #[.agg #[.int .i32 r, .int .u8 f, .int .u8 b, .int .u8 a], .int .i64 n, takeV B] w fun e w' => e = .returned (Cel.val ⟨r, f, b, drawnP a n⟩) ∧ TakeAt w' B l ∧ Only B w w' := by
  have hB := h.lt
  have T := Lib.hid (Two.start h r f b a)
  have HB := Lib.hid hB; clear h hB
  have e0 : (n == 0) = false := by simp; omega
  have e38 : (n == 38) = false := by simp; omega
  have e39 : (n == 39) = false := by simp; omega
  have e48 : (n == 48) = false := by simp; omega
  have e49 : (n == 49) = false := by simp; omega
  have d30 : decide (30 ≤ n) = false := decide_eq_false (by omega)
  have d40 : decide (40 ≤ n) = false := decide_eq_false (by omega)
  have d90 : decide (90 ≤ n) = false := decide_eq_false (by omega)
  have d100 : decide (100 ≤ n) = false := decide_eq_false (by omega)
  have HC := Lib.hid (drawn_of a n _ (hW.ext (((Ext.refl w).alloc (.cells #[.int .i32 r, .int .u8 f, .int .u8 b, .int .u8 a] 23)).alloc (.cells #[.int .i32 0, .int .u8 0, .int .u8 0, .int .u8 0] 23))))
  generalize drawnP a n = q at HC ⊢
  clear hn hW
  go_enter Tryd.func18, Tryd.ntmps18
  go_wp2_with fail
  refine HC.out.mono ?_
  rintro e w1 ⟨rfl, hx⟩
  have T2 := Lib.hid (T.out.ext hx); clear hx
  have k0 : _ = some (Value.int .i32 r) := T2.out.pen.cell 0
  have f0 := T2.out.pen.frozen 0
  have k1 : _ = some (Value.int .u8 f) := T2.out.pen.cell 1
  have f1 := T2.out.pen.frozen 1
  have k2 : _ = some (Value.int .u8 b) := T2.out.pen.cell 2
  have f2 := T2.out.pen.frozen 2
  have k3 : _ = some (Value.int .u8 a) := T2.out.pen.cell 3
  have f3 := T2.out.pen.frozen 3
  have o0 : _ = some (Value.int .i32 0) := T2.out.out.cell 0
  have p0 := T2.out.out.frozen 0
  have o1 : _ = some (Value.int .u8 0) := T2.out.out.cell 1
  have p1 := T2.out.out.frozen 1
  have o2 : _ = some (Value.int .u8 0) := T2.out.out.cell 2
  have p2 := T2.out.out.frozen 2
  have o3 : _ = some (Value.int .u8 0) := T2.out.out.cell 3
  have p3 := T2.out.out.frozen 3
  go_wp2
  exact ret_cell1 rfl rfl rfl (T2.out.fin HB.out 3 (.int .u8 q) ⟨r, f, b, q⟩ rfl).1 ⟨rfl, (T2.out.fin HB.out 3 (.int .u8 q) ⟨r, f, b, q⟩ rfl).2⟩
set_option maxHeartbeats 4000000 in
set_option maxRecDepth 100000 in
theorem obeyed_n1 (r f b a : Int) (n : Int) (B : Nat) (l : List Int) (w : World) (h : TakeAt w B l) (hW : Ways w) (hn : 1 ≤ n ∧ n ≤ 29) : Calls Tryd.prog 18 #[.agg #[.int .i32 r, .int .u8 f, .int .u8 b, .int .u8 a], .int .i64 n, takeV B] w fun e w' => e = .returned (Cel.val ⟨r, f, b, drawnP a n⟩) ∧ TakeAt w' B l ∧ Only B w w' := by
  have hB := h.lt
  have T := Lib.hid (Two.start h r f b a)
  have HB := Lib.hid hB; clear h hB
  have e0 : (n == 0) = false := by simp; omega
  have e38 : (n == 38) = false := by simp; omega
  have e39 : (n == 39) = false := by simp; omega
  have e48 : (n == 48) = false := by simp; omega
  have e49 : (n == 49) = false := by simp; omega
  have d30 : decide (30 ≤ n) = false := decide_eq_false (by omega)
  have d40 : decide (40 ≤ n) = false := decide_eq_false (by omega)
  have d90 : decide (90 ≤ n) = false := decide_eq_false (by omega)
  have d100 : decide (100 ≤ n) = false := decide_eq_false (by omega)
  have HC := Lib.hid (drawn_of a n _ (hW.ext (((Ext.refl w).alloc (.cells #[.int .i32 r, .int .u8 f, .int .u8 b, .int .u8 a] 23)).alloc (.cells #[.int .i32 0, .int .u8 0, .int .u8 0, .int .u8 0] 23))))
  generalize drawnP a n = q at HC ⊢
  clear hn hW
  go_enter Tryd.func18, Tryd.ntmps18
  go_wp2_with fail
  refine HC.out.mono ?_
  rintro e w1 ⟨rfl, hx⟩
  have T2 := Lib.hid (T.out.ext hx); clear hx
  have k0 : _ = some (Value.int .i32 r) := T2.out.pen.cell 0
  have f0 := T2.out.pen.frozen 0
  have k1 : _ = some (Value.int .u8 f) := T2.out.pen.cell 1
  have f1 := T2.out.pen.frozen 1
  have k2 : _ = some (Value.int .u8 b) := T2.out.pen.cell 2
  have f2 := T2.out.pen.frozen 2
  have k3 : _ = some (Value.int .u8 a) := T2.out.pen.cell 3
  have f3 := T2.out.pen.frozen 3
  have o0 : _ = some (Value.int .i32 0) := T2.out.out.cell 0
  have p0 := T2.out.out.frozen 0
  have o1 : _ = some (Value.int .u8 0) := T2.out.out.cell 1
  have p1 := T2.out.out.frozen 1
  have o2 : _ = some (Value.int .u8 0) := T2.out.out.cell 2
  have p2 := T2.out.out.frozen 2
  have o3 : _ = some (Value.int .u8 0) := T2.out.out.cell 3
  have p3 := T2.out.out.frozen 3
  go_wp2
  exact ret_cell1 rfl rfl rfl (T2.out.fin HB.out 3 (.int .u8 q) ⟨r, f, b, q⟩ rfl).1 ⟨rfl, (T2.out.fin HB.out 3 (.int .u8 q) ⟨r, f, b, q⟩ rfl).2⟩
set_option maxHeartbeats 4000000 in
set_option maxRecDepth 100000 in
theorem obeyed_n50 (r f b a : Int) (n : Int) (B : Nat) (l : List Int) (w : World) (h : TakeAt w B l) (hW : Ways w) (hn : 50 ≤ n ∧ n ≤ 89) : Calls Tryd.prog 18 #[.agg #[.int .i32 r, .int .u8 f, .int .u8 b, .int .u8 a], .int .i64 n, takeV B] w fun e w' => e = .returned (Cel.val ⟨r, f, b, drawnP a n⟩) ∧ TakeAt w' B l ∧ Only B w w' := by
  have hB := h.lt
  have T := Lib.hid (Two.start h r f b a)
  have HB := Lib.hid hB; clear h hB
  have e0 : (n == 0) = false := by simp; omega
  have e38 : (n == 38) = false := by simp; omega
  have e39 : (n == 39) = false := by simp; omega
  have e48 : (n == 48) = false := by simp; omega
  have e49 : (n == 49) = false := by simp; omega
  have d30 : decide (30 ≤ n) = true := decide_eq_true (by omega)
  have d37 : decide (n ≤ 37) = false := decide_eq_false (by omega)
  have d40 : decide (40 ≤ n) = true := decide_eq_true (by omega)
  have d47 : decide (n ≤ 47) = false := decide_eq_false (by omega)
  have d90 : decide (90 ≤ n) = false := decide_eq_false (by omega)
  have d100 : decide (100 ≤ n) = false := decide_eq_false (by omega)
  have HC := Lib.hid (drawn_of a n _ (hW.ext (((Ext.refl w).alloc (.cells #[.int .i32 r, .int .u8 f, .int .u8 b, .int .u8 a] 23)).alloc (.cells #[.int .i32 0, .int .u8 0, .int .u8 0, .int .u8 0] 23))))
  generalize drawnP a n = q at HC ⊢
  clear hn hW
  go_enter Tryd.func18, Tryd.ntmps18
  go_wp2_with fail
  refine HC.out.mono ?_
  rintro e w1 ⟨rfl, hx⟩
  have T2 := Lib.hid (T.out.ext hx); clear hx
  have k0 : _ = some (Value.int .i32 r) := T2.out.pen.cell 0
  have f0 := T2.out.pen.frozen 0
  have k1 : _ = some (Value.int .u8 f) := T2.out.pen.cell 1
  have f1 := T2.out.pen.frozen 1
  have k2 : _ = some (Value.int .u8 b) := T2.out.pen.cell 2
  have f2 := T2.out.pen.frozen 2
  have k3 : _ = some (Value.int .u8 a) := T2.out.pen.cell 3
  have f3 := T2.out.pen.frozen 3
  have o0 : _ = some (Value.int .i32 0) := T2.out.out.cell 0
  have p0 := T2.out.out.frozen 0
  have o1 : _ = some (Value.int .u8 0) := T2.out.out.cell 1
  have p1 := T2.out.out.frozen 1
  have o2 : _ = some (Value.int .u8 0) := T2.out.out.cell 2
  have p2 := T2.out.out.frozen 2
  have o3 : _ = some (Value.int .u8 0) := T2.out.out.cell 3
  have p3 := T2.out.out.frozen 3
  go_wp2
  exact ret_cell1 rfl rfl rfl (T2.out.fin HB.out 3 (.int .u8 q) ⟨r, f, b, q⟩ rfl).1 ⟨rfl, (T2.out.fin HB.out 3 (.int .u8 q) ⟨r, f, b, q⟩ rfl).2⟩
set_option maxHeartbeats 4000000 in
set_option maxRecDepth 100000 in
theorem obeyed_n98 (r f b a : Int) (n : Int) (B : Nat) (l : List Int) (w : World) (h : TakeAt w B l) (hW : Ways w) (hn : 98 ≤ n ∧ n ≤ 99) : Calls Tryd.prog 18 #[.agg #[.int .i32 r, .int .u8 f, .int .u8 b, .int .u8 a], .int .i64 n, takeV B] w fun e w' => e = .returned (Cel.val ⟨r, f, b, drawnP a n⟩) ∧ TakeAt w' B l ∧ Only B w w' := by
  have hB := h.lt
  have T := Lib.hid (Two.start h r f b a)
  have HB := Lib.hid hB; clear h hB
  have e0 : (n == 0) = false := by simp; omega
  have e38 : (n == 38) = false := by simp; omega
  have e39 : (n == 39) = false := by simp; omega
  have e48 : (n == 48) = false := by simp; omega
  have e49 : (n == 49) = false := by simp; omega
  have d30 : decide (30 ≤ n) = true := decide_eq_true (by omega)
  have d37 : decide (n ≤ 37) = false := decide_eq_false (by omega)
  have d40 : decide (40 ≤ n) = true := decide_eq_true (by omega)
  have d47 : decide (n ≤ 47) = false := decide_eq_false (by omega)
  have d90 : decide (90 ≤ n) = true := decide_eq_true (by omega)
  have d97 : decide (n ≤ 97) = false := decide_eq_false (by omega)
  have d100 : decide (100 ≤ n) = false := decide_eq_false (by omega)
  have HC := Lib.hid (drawn_of a n _ (hW.ext (((Ext.refl w).alloc (.cells #[.int .i32 r, .int .u8 f, .int .u8 b, .int .u8 a] 23)).alloc (.cells #[.int .i32 0, .int .u8 0, .int .u8 0, .int .u8 0] 23))))
  generalize drawnP a n = q at HC ⊢
  clear hn hW
  go_enter Tryd.func18, Tryd.ntmps18
  go_wp2_with fail
  refine HC.out.mono ?_
  rintro e w1 ⟨rfl, hx⟩
  have T2 := Lib.hid (T.out.ext hx); clear hx
  have k0 : _ = some (Value.int .i32 r) := T2.out.pen.cell 0
  have f0 := T2.out.pen.frozen 0
  have k1 : _ = some (Value.int .u8 f) := T2.out.pen.cell 1
  have f1 := T2.out.pen.frozen 1
  have k2 : _ = some (Value.int .u8 b) := T2.out.pen.cell 2
  have f2 := T2.out.pen.frozen 2
  have k3 : _ = some (Value.int .u8 a) := T2.out.pen.cell 3
  have f3 := T2.out.pen.frozen 3
  have o0 : _ = some (Value.int .i32 0) := T2.out.out.cell 0
  have p0 := T2.out.out.frozen 0
  have o1 : _ = some (Value.int .u8 0) := T2.out.out.cell 1
  have p1 := T2.out.out.frozen 1
  have o2 : _ = some (Value.int .u8 0) := T2.out.out.cell 2
  have p2 := T2.out.out.frozen 2
  have o3 : _ = some (Value.int .u8 0) := T2.out.out.cell 3
  have p3 := T2.out.out.frozen 3
  go_wp2
  exact ret_cell1 rfl rfl rfl (T2.out.fin HB.out 3 (.int .u8 q) ⟨r, f, b, q⟩ rfl).1 ⟨rfl, (T2.out.fin HB.out 3 (.int .u8 q) ⟨r, f, b, q⟩ rfl).2⟩
set_option maxHeartbeats 4000000 in
set_option maxRecDepth 100000 in
theorem obeyed_n108 (r f b a : Int) (n : Int) (B : Nat) (l : List Int) (w : World) (h : TakeAt w B l) (hW : Ways w) (hn : 108 ≤ n) : Calls Tryd.prog 18 #[.agg #[.int .i32 r, .int .u8 f, .int .u8 b, .int .u8 a], .int .i64 n, takeV B] w fun e w' => e = .returned (Cel.val ⟨r, f, b, drawnP a n⟩) ∧ TakeAt w' B l ∧ Only B w w' := by
  have hB := h.lt
  have T := Lib.hid (Two.start h r f b a)
  have HB := Lib.hid hB; clear h hB
  have e0 : (n == 0) = false := by simp; omega
  have e38 : (n == 38) = false := by simp; omega
  have e39 : (n == 39) = false := by simp; omega
  have e48 : (n == 48) = false := by simp; omega
  have e49 : (n == 49) = false := by simp; omega
  have d30 : decide (30 ≤ n) = true := decide_eq_true (by omega)
  have d37 : decide (n ≤ 37) = false := decide_eq_false (by omega)
  have d40 : decide (40 ≤ n) = true := decide_eq_true (by omega)
  have d47 : decide (n ≤ 47) = false := decide_eq_false (by omega)
  have d90 : decide (90 ≤ n) = true := decide_eq_true (by omega)
  have d97 : decide (n ≤ 97) = false := decide_eq_false (by omega)
  have d100 : decide (100 ≤ n) = true := decide_eq_true (by omega)
  have d107 : decide (n ≤ 107) = false := decide_eq_false (by omega)
  have HC := Lib.hid (drawn_of a n _ (hW.ext (((Ext.refl w).alloc (.cells #[.int .i32 r, .int .u8 f, .int .u8 b, .int .u8 a] 23)).alloc (.cells #[.int .i32 0, .int .u8 0, .int .u8 0, .int .u8 0] 23))))
  generalize drawnP a n = q at HC ⊢
  clear hn hW
  go_enter Tryd.func18, Tryd.ntmps18
  go_wp2_with fail
  refine HC.out.mono ?_
  rintro e w1 ⟨rfl, hx⟩
  have T2 := Lib.hid (T.out.ext hx); clear hx
  have k0 : _ = some (Value.int .i32 r) := T2.out.pen.cell 0
  have f0 := T2.out.pen.frozen 0
  have k1 : _ = some (Value.int .u8 f) := T2.out.pen.cell 1
  have f1 := T2.out.pen.frozen 1
  have k2 : _ = some (Value.int .u8 b) := T2.out.pen.cell 2
  have f2 := T2.out.pen.frozen 2
  have k3 : _ = some (Value.int .u8 a) := T2.out.pen.cell 3
  have f3 := T2.out.pen.frozen 3
  have o0 : _ = some (Value.int .i32 0) := T2.out.out.cell 0
  have p0 := T2.out.out.frozen 0
  have o1 : _ = some (Value.int .u8 0) := T2.out.out.cell 1
  have p1 := T2.out.out.frozen 1
  have o2 : _ = some (Value.int .u8 0) := T2.out.out.cell 2
  have p2 := T2.out.out.frozen 2
  have o3 : _ = some (Value.int .u8 0) := T2.out.out.cell 3
  have p3 := T2.out.out.frozen 3
  go_wp2
  exact ret_cell1 rfl rfl rfl (T2.out.fin HB.out 3 (.int .u8 q) ⟨r, f, b, q⟩ rfl).1 ⟨rfl, (T2.out.fin HB.out 3 (.int .u8 q) ⟨r, f, b, q⟩ rfl).2⟩
theorem penObeyed_of (c : Cel) (n : Int) (B : Nat) (l : List Int) (w : World) (h : TakeAt w B l) (hW : Ways w) : Calls Tryd.prog 18 #[c.val, .int .i64 n, takeV B] w fun e w' => e = .returned (obeyedP c n l).1.val ∧ TakeAt w' B (obeyedP c n l).2 ∧ Only B w w' := by
  obtain ⟨r, f, b, a⟩ := c
  unfold obeyedP
  simp only
  by_cases h0 : n = 0
  · rw [if_pos h0]; subst h0; exact obeyed_zero r f b a B l w h
  rw [if_neg h0]
  by_cases h1 : 30 ≤ n ∧ n ≤ 37
  · rw [if_pos h1]; exact obeyed_30 r f b a n B l w h h1
  rw [if_neg h1]
  by_cases h2 : n = 38
  · rw [if_pos h2]; subst h2; exact obeyed_38 r f b a B l w h
  rw [if_neg h2]
  by_cases h3 : n = 39
  · rw [if_pos h3]; subst h3; exact obeyed_39 r f b a B l w h
  rw [if_neg h3]
  by_cases h4 : 40 ≤ n ∧ n ≤ 47
  · rw [if_pos h4]; exact obeyed_40 r f b a n B l w h h4
  rw [if_neg h4]
  by_cases h5 : n = 48
  · rw [if_pos h5]; subst h5; exact obeyed_48 r f b a B l w h
  rw [if_neg h5]
  by_cases h6 : n = 49
  · rw [if_pos h6]; subst h6; exact obeyed_49 r f b a B l w h
  rw [if_neg h6]
  by_cases h7 : 90 ≤ n ∧ n ≤ 97
  · rw [if_pos h7]; exact obeyed_90 r f b a n B l w h h7
  rw [if_neg h7]
  by_cases h8 : 100 ≤ n ∧ n ≤ 107
  · rw [if_pos h8]; exact obeyed_100 r f b a n B l w h h8
  rw [if_neg h8]
  rcases (show n < 0 ∨ (1 ≤ n ∧ n ≤ 29) ∨ (50 ≤ n ∧ n ≤ 89) ∨ (98 ≤ n ∧ n ≤ 99) ∨ 108 ≤ n by omega) with h9 | h9 | h9 | h9 | h9
  · exact obeyed_n0 r f b a n B l w h hW h9
  · exact obeyed_n1 r f b a n B l w h hW h9
  · exact obeyed_n50 r f b a n B l w h hW h9
  · exact obeyed_n98 r f b a n B l w h hW h9
  · exact obeyed_n108 r f b a n B l w h hW h9
end Go.Proofs.YtgnknliaeoblhabDoor
