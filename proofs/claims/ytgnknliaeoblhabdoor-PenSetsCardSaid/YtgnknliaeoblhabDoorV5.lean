/- The laws' acts, and the chapter's example. · A region that draws its order, in a class of worlds of one's own: each operation hands back one value in every world of the class, and leaves one of it. · The chapter's example; the law PenColours, walked. · Rows of cells: as arguments, and of a call's own. · How many cells the character has that a row begins with: cell.whole. · A row of numbers of the call's own; a number appended. -/
import Derived.Test.YtgnknliaeoblhabDoorV2
import Derived.Test.YtgnknliaeoblhabDoorV4
import Derived.WalkKit
import Derived.Deep.QuietTactic
import Derived.BigQuiet
import Derived.Deep.RegionLaw
import Derived.StillTailTactics
namespace Go.Proofs.YtgnknliaeoblhabDoor
open Go Go.RowKit

/-- A number's rest by 112. -/
def rest112 (x : Int) : Int := x % 112
theorem rest112_walk (a : Int) : (wrap64 (a.tmod 112 + 112)).tmod 112 = rest112 a := by
  have h1 := Int.tmod_lt_of_pos a (show (0 : Int) < 112 by decide)
  have h2 := Int.lt_tmod_of_pos a (show (0 : Int) < 112 by decide)
  have h0 : a.tmod 112 % 112 = a % 112 := by
    rw [Int.tmod_eq_emod]
    split <;> omega
  generalize a.tmod 112 = u at h0 h1 h2
  have e1 : wrap64 (u + 112) = u + 112 := by unfold wrap64; omega
  rw [e1, Int.tmod_eq_emod_of_nonneg (by omega)]
  unfold rest112
  omega
theorem rest112_in (x : Int) : 0 ≤ rest112 x ∧ rest112 x ≤ 111 := by unfold rest112; omega
theorem rest112_of {x : Int} (h : 0 ≤ x ∧ x ≤ 111) : rest112 x = x := by unfold rest112; omega
/-- An act's numbers behind so many. -/
def padP (l : List Int) (i : Nat) : List Int := (l.take i).map rest112 ++ List.replicate (8 - i) 0
theorem padP_len (l : List Int) (i : Nat) (hi : i ≤ l.length) (h8 : i ≤ 8) : (padP l i).length = 8 := by
  unfold padP
  simp; omega
theorem padP_next (l : List Int) (i : Nat) (x : Int) (h8 : i < 8) (hx : l[i]? = some x) : (padP l i).set i (rest112 x) = padP l (i + 1) := by
  have hi := (List.getElem?_eq_some_iff.1 hx).1
  have h1 : ((l.take i).map rest112).length = i := by simp; omega
  unfold padP
  rw [List.set_append_right _ _ (by omega), h1, Nat.sub_self, List.take_add_one, hx, List.map_append]
  obtain ⟨k, hk⟩ : ∃ k, 8 - i = k + 1 := ⟨8 - i - 1, by omega⟩
  rw [hk, show 8 - (i + 1) = k by omega, List.replicate_succ]
  simp
/-- An act's cells, as a list. -/
def actL (n : Int) (ns : List Int) : List Value := .int .i64 4 :: .int .i32 109 :: .int .u8 0 :: .int .u8 0 :: .int .i64 n :: ns.map fun x => Value.int .i64 x
theorem actL_set (n : Int) (ns : List Int) (i : Nat) (x : Int) : (actL n ns).toArray.setIfInBounds (5 + i) (.int .i64 x) = (actL n (ns.set i x)).toArray := by
  rw [List.setIfInBounds_toArray, show 5 + i = i + 5 by omega]
  unfold actL
  simp only [List.set_cons_succ, List.map_set]
theorem actL_n (n m : Int) (ns : List Int) : (actL n ns).toArray.setIfInBounds 4 (.int .i64 m) = (actL m ns).toArray := by
  rw [List.setIfInBounds_toArray]; rfl
theorem eight' {α : Type} (l : List α) (h : l.length = 8) : ∃ a b c d e f g k, l = [a, b, c, d, e, f, g, k] := by
  match l, h with
  | [a, b, c, d, e, f, g, k], _ => exact ⟨a, b, c, d, e, f, g, k, rfl⟩
theorem infoAct13' : (Tryd.prog.info? 28).map (·.size) = some 13 := by kernel_rfl
theorem ret_act' {fn : Func} {p : Tmp} (hr : fn.results = #[.cell p 28]) {Q : Ending → World → Prop} {a : Act} {w : World} {G : Nat} {cs : Array Value} (hd : a.defers = []) (hp : a.tmps.getD p undef = .pointer (some ⟨G, 0, none⟩))
    (hb : Blk w G 28 cs) (hz : cs.size = 13) (hq : Q (.returned (.agg cs)) w) : bodyPost Tryd.prog fn Q .ret a w := by
  obtain ⟨tm, df⟩ := a
  simp only at hd hp
  subst hd
  exact bodyPost_ret (results_cell_row hr _ _ G 28 cs (0, 0) _ hp hb Tryd.underlying28 rfl (by rw [hz]; exact infoAct13')) rfl hq
set_option maxRecDepth 100000 in
theorem act_laid {w W : World} {g : Nat} (h : Blk W g 28 (actN 0 0 0 0 0 0 0 0 0 0 0 0 0)) (hx : Ext w W) (hg : w.heap.size ≤ g) (k r p m n n0 n1 n2 n3 n4 n5 n6 n7 : Int) :
    Blk (((((((((((((W.setCell ⟨g, 0, none⟩ (.int .i64 k)).setCell ⟨g, 1, none⟩ (.int .i32 r)).setCell ⟨g, 2, none⟩ (.int .u8 p)).setCell ⟨g, 3, none⟩ (.int .u8 m)).setCell ⟨g, 4, none⟩ (.int .i64 n)).setCell ⟨g, 5, none⟩ (.int .i64 n0)).setCell ⟨g, 6, none⟩ (.int .i64 n1)).setCell ⟨g, 7, none⟩ (.int .i64 n2)).setCell ⟨g, 8, none⟩ (.int .i64 n3)).setCell ⟨g, 9, none⟩ (.int .i64 n4)).setCell ⟨g, 10, none⟩ (.int .i64 n5)).setCell ⟨g, 11, none⟩ (.int .i64 n6)).setCell ⟨g, 12, none⟩ (.int .i64 n7)) g 28 (actN k r p m n n0 n1 n2 n3 n4 n5 n6 n7) ∧ Ext w (((((((((((((W.setCell ⟨g, 0, none⟩ (.int .i64 k)).setCell ⟨g, 1, none⟩ (.int .i32 r)).setCell ⟨g, 2, none⟩ (.int .u8 p)).setCell ⟨g, 3, none⟩ (.int .u8 m)).setCell ⟨g, 4, none⟩ (.int .i64 n)).setCell ⟨g, 5, none⟩ (.int .i64 n0)).setCell ⟨g, 6, none⟩ (.int .i64 n1)).setCell ⟨g, 7, none⟩ (.int .i64 n2)).setCell ⟨g, 8, none⟩ (.int .i64 n3)).setCell ⟨g, 9, none⟩ (.int .i64 n4)).setCell ⟨g, 10, none⟩ (.int .i64 n5)).setCell ⟨g, 11, none⟩ (.int .i64 n6)).setCell ⟨g, 12, none⟩ (.int .i64 n7)) := by
  have h0 : Blk _ g 28 #[.int .i64 k, .int .i32 0, .int .u8 0, .int .u8 0, .int .i64 0, .int .i64 0, .int .i64 0, .int .i64 0, .int .i64 0, .int .i64 0, .int .i64 0, .int .i64 0, .int .i64 0] := Blk.set_ h 0 (.int .i64 k)
  have h1 : Blk _ g 28 #[.int .i64 k, .int .i32 r, .int .u8 0, .int .u8 0, .int .i64 0, .int .i64 0, .int .i64 0, .int .i64 0, .int .i64 0, .int .i64 0, .int .i64 0, .int .i64 0, .int .i64 0] := Blk.set_ h0 1 (.int .i32 r)
  have h2 : Blk _ g 28 #[.int .i64 k, .int .i32 r, .int .u8 p, .int .u8 0, .int .i64 0, .int .i64 0, .int .i64 0, .int .i64 0, .int .i64 0, .int .i64 0, .int .i64 0, .int .i64 0, .int .i64 0] := Blk.set_ h1 2 (.int .u8 p)
  have h3 : Blk _ g 28 #[.int .i64 k, .int .i32 r, .int .u8 p, .int .u8 m, .int .i64 0, .int .i64 0, .int .i64 0, .int .i64 0, .int .i64 0, .int .i64 0, .int .i64 0, .int .i64 0, .int .i64 0] := Blk.set_ h2 3 (.int .u8 m)
  have h4 : Blk _ g 28 #[.int .i64 k, .int .i32 r, .int .u8 p, .int .u8 m, .int .i64 n, .int .i64 0, .int .i64 0, .int .i64 0, .int .i64 0, .int .i64 0, .int .i64 0, .int .i64 0, .int .i64 0] := Blk.set_ h3 4 (.int .i64 n)
  have h5 : Blk _ g 28 #[.int .i64 k, .int .i32 r, .int .u8 p, .int .u8 m, .int .i64 n, .int .i64 n0, .int .i64 0, .int .i64 0, .int .i64 0, .int .i64 0, .int .i64 0, .int .i64 0, .int .i64 0] := Blk.set_ h4 5 (.int .i64 n0)
  have h6 : Blk _ g 28 #[.int .i64 k, .int .i32 r, .int .u8 p, .int .u8 m, .int .i64 n, .int .i64 n0, .int .i64 n1, .int .i64 0, .int .i64 0, .int .i64 0, .int .i64 0, .int .i64 0, .int .i64 0] := Blk.set_ h5 6 (.int .i64 n1)
  have h7 : Blk _ g 28 #[.int .i64 k, .int .i32 r, .int .u8 p, .int .u8 m, .int .i64 n, .int .i64 n0, .int .i64 n1, .int .i64 n2, .int .i64 0, .int .i64 0, .int .i64 0, .int .i64 0, .int .i64 0] := Blk.set_ h6 7 (.int .i64 n2)
  have h8 : Blk _ g 28 #[.int .i64 k, .int .i32 r, .int .u8 p, .int .u8 m, .int .i64 n, .int .i64 n0, .int .i64 n1, .int .i64 n2, .int .i64 n3, .int .i64 0, .int .i64 0, .int .i64 0, .int .i64 0] := Blk.set_ h7 8 (.int .i64 n3)
  have h9 : Blk _ g 28 #[.int .i64 k, .int .i32 r, .int .u8 p, .int .u8 m, .int .i64 n, .int .i64 n0, .int .i64 n1, .int .i64 n2, .int .i64 n3, .int .i64 n4, .int .i64 0, .int .i64 0, .int .i64 0] := Blk.set_ h8 9 (.int .i64 n4)
  have h10 : Blk _ g 28 #[.int .i64 k, .int .i32 r, .int .u8 p, .int .u8 m, .int .i64 n, .int .i64 n0, .int .i64 n1, .int .i64 n2, .int .i64 n3, .int .i64 n4, .int .i64 n5, .int .i64 0, .int .i64 0] := Blk.set_ h9 10 (.int .i64 n5)
  have h11 : Blk _ g 28 #[.int .i64 k, .int .i32 r, .int .u8 p, .int .u8 m, .int .i64 n, .int .i64 n0, .int .i64 n1, .int .i64 n2, .int .i64 n3, .int .i64 n4, .int .i64 n5, .int .i64 n6, .int .i64 0] := Blk.set_ h10 11 (.int .i64 n6)
  have h12 : Blk _ g 28 #[.int .i64 k, .int .i32 r, .int .u8 p, .int .u8 m, .int .i64 n, .int .i64 n0, .int .i64 n1, .int .i64 n2, .int .i64 n3, .int .i64 n4, .int .i64 n5, .int .i64 n6, .int .i64 n7] := Blk.set_ h11 12 (.int .i64 n7)
  exact ⟨h12, (Ext.setCell (p := ⟨g, 12, none⟩) (Ext.setCell (p := ⟨g, 11, none⟩) (Ext.setCell (p := ⟨g, 10, none⟩) (Ext.setCell (p := ⟨g, 9, none⟩) (Ext.setCell (p := ⟨g, 8, none⟩) (Ext.setCell (p := ⟨g, 7, none⟩) (Ext.setCell (p := ⟨g, 6, none⟩) (Ext.setCell (p := ⟨g, 5, none⟩) (Ext.setCell (p := ⟨g, 4, none⟩) (Ext.setCell (p := ⟨g, 3, none⟩) (Ext.setCell (p := ⟨g, 2, none⟩) (Ext.setCell (p := ⟨g, 1, none⟩) (Ext.setCell (p := ⟨g, 0, none⟩) hx hg (.int .i64 k)) hg (.int .i32 r)) hg (.int .u8 p)) hg (.int .u8 m)) hg (.int .i64 n)) hg (.int .i64 n0)) hg (.int .i64 n1)) hg (.int .i64 n2)) hg (.int .i64 n3)) hg (.int .i64 n4)) hg (.int .i64 n5)) hg (.int .i64 n6)) hg (.int .i64 n7))⟩
set_option maxHeartbeats 4000000 in
set_option maxRecDepth 100000 in
theorem act_of (l : List Int) (v : Value) (w : World) (hv : IsInts w v l) (hm : l.length ≤ maxLen) : Calls Tryd.prog 12 #[v] w fun e w' =>
    ∃ n0 n1 n2 n3 n4 n5 n6 n7, e = .returned (.agg (actN 4 109 0 0 ((min l.length 8 : Nat) : Int) n0 n1 n2 n3 n4 n5 n6 n7)) ∧ padP l (min l.length 8) = [n0, n1, n2, n3, n4, n5, n6, n7] ∧ Ext w w' := by
  have hm2 : l.length ≤ 9223372036854775807 := hm
  obtain ⟨A, c, rfl, hc, hA⟩ := hv.form
  generalize hN : l.length = N at hc hv hm2 ⊢
  have H := Lib.hid (And.intro hv hN); clear hv hN hA hm
  have hb0 : Blk ((w.alloc (.cells (actN 0 0 0 0 0 0 0 0 0 0 0 0 0) 28)).alloc (.cells (actN 4 109 0 0 0 0 0 0 0 0 0 0 0) 28)) (w.heap.size + 1) 28 (actL 0 (padP l 0)).toArray := heap_two _ _ _
  have ho0 : Blk ((w.alloc (.cells (actN 0 0 0 0 0 0 0 0 0 0 0 0 0) 28)).alloc (.cells (actN 4 109 0 0 0 0 0 0 0 0 0 0 0) 28)) w.heap.size 28 (actN 0 0 0 0 0 0 0 0 0 0 0 0 0) := Blk.ext (Go.heap_alloc_new w _) ((Ext.refl _).alloc _)
  have hx0 : Ext w ((w.alloc (.cells (actN 0 0 0 0 0 0 0 0 0 0 0 0 0) 28)).alloc (.cells (actN 4 109 0 0 0 0 0 0 0 0 0 0 0) 28)) := ((Ext.refl w).alloc _).alloc _
  have HB := Lib.hid (And.intro hb0 (And.intro ho0 hx0)); clear hb0 ho0 hx0
  go_enter Tryd.func12, Tryd.ntmps12
  go_wp2
  go_loopg [4] (min N 8) (fun k u wr => ∃ i : Nat, u = .int .i64 i ∧ Hid (i + k = min N 8 ∧ Blk wr (w.heap.size + 1) 28 (actL i (padP l i)).toArray ∧ Blk wr w.heap.size 28 (actN 0 0 0 0 0 0 0 0 0 0 0 0 0) ∧ Ext w wr))
  case atStart => exact ⟨0, rfl, Nat.zero_add _, HB.out⟩
  case round =>
    clear HB
    obtain ⟨i, rfl, hin⟩ := hrel
    by_cases hi : i < N
    · have hiN : (i : Int) < (N : Int) := by omega
      by_cases h8 : i < 8
      · have hi8 : (i : Int) < 8 := by omega
        obtain ⟨x, hx⟩ : ∃ x, l[i]? = some x := ⟨l[i]'(by rw [H.out.2]; exact hi), List.getElem?_eq_getElem _⟩
        obtain ⟨hx64, g, off, rfl, hcx⟩ := H.out.1.at hx
        have k0 := hin.out.2.2.2.cell hcx
        have hr := rest112_walk x
        have f5 := hin.out.2.1.frozen (5 + i)
        have f4 := hin.out.2.1.frozen 4
        have q4 : wr.cell? ⟨w.heap.size + 1, 4, none⟩ = some (.int .i64 i) := hin.out.2.1.cell 4
        obtain ⟨y, q5⟩ : ∃ y, wr.cell? ⟨w.heap.size + 1, 5 + i, none⟩ = some y := by
          have h13 : 5 + i < (actL i (padP l i)).toArray.size := by
            have := padP_len l i (by rw [H.out.2]; omega) (by omega)
            unfold actL
            simp only [List.size_toArray, List.length_cons, List.length_map]; omega
          exact ⟨_, (hin.out.2.1.cell (5 + i)).trans (Array.getElem?_eq_getElem h13)⟩
        obtain ⟨R, hR⟩ : ∃ R, rest112 x = R := ⟨_, rfl⟩
        rw [hR] at hr
        have hs1 := hin.out.2.1.set_ (5 + i) (.int .i64 R)
        rw [actL_set, ← hR, padP_next l i x h8 hx] at hs1
        have hs2 := hs1.set_ 4 (.int .i64 ((i + 1 : Nat) : Int))
        rw [actL_n, hR] at hs2
        have ho := ((Only.refl (w.heap.size + 1) wr).setCell (i := 5 + i) (.int .i64 R)).setCell (i := 4) (.int .i64 ((i + 1 : Nat) : Int))
        have hgk : i + 1 + (gk - 1) = min N 8 ∧ gk - 1 < gk := by have := hin.out.1; omega
        have HS := Lib.hid (And.intro hs2 (And.intro (hin.out.2.2.1.only ho (by omega)) (And.intro (Below.trans hin.out.2.2.2 (ho.below (by omega) hin.out.2.2.2.size) : Ext w _) hgk))); clear hs1 hs2 ho hgk hR hcx hx
        go_wp2
        go_roundg (gk - 1)
        case measure => exact HS.out.2.2.2.2
        case rel => exact ⟨i + 1, by go_num, HS.out.2.2.2.1, HS.out.1, HS.out.2.1, HS.out.2.2.1⟩
      · have hi8 : ¬ (i : Int) < 8 := by omega
        have hi2 : i = min N 8 := by have := hin.out.1; omega
        obtain ⟨n0, n1, n2, n3, n4, n5, n6, n7, e8⟩ := eight' _ (padP_len l (min N 8) (by rw [H.out.2]; omega) (by omega))
        have hb := hin.out.2.1
        rw [hi2, e8] at hb
        have hbl : Blk wr (w.heap.size + 1) 28 (actN 4 109 0 0 ((min N 8 : Nat) : Int) n0 n1 n2 n3 n4 n5 n6 n7) := hb
        clear hb
        generalize hM : min N 8 = M at hi2 hbl e8
        subst hi2
        have HM := Lib.hid hM; clear hM
        have HE := Lib.hid (And.intro hbl e8); clear hbl e8
        have k0 : wr.cell? ⟨w.heap.size + 1, 0, none⟩ = some (.int .i64 4) := HE.out.1.cell 0
        have k1 : wr.cell? ⟨w.heap.size + 1, 1, none⟩ = some (.int .i32 109) := HE.out.1.cell 1
        have k2 : wr.cell? ⟨w.heap.size + 1, 2, none⟩ = some (.int .u8 0) := HE.out.1.cell 2
        have k3 : wr.cell? ⟨w.heap.size + 1, 3, none⟩ = some (.int .u8 0) := HE.out.1.cell 3
        have k4 : wr.cell? ⟨w.heap.size + 1, 4, none⟩ = some (.int .i64 i) := HE.out.1.cell 4
        have k5 : wr.cell? ⟨w.heap.size + 1, 5, none⟩ = some (.int .i64 n0) := HE.out.1.cell 5
        have k6 : wr.cell? ⟨w.heap.size + 1, 6, none⟩ = some (.int .i64 n1) := HE.out.1.cell 6
        have k7 : wr.cell? ⟨w.heap.size + 1, 7, none⟩ = some (.int .i64 n2) := HE.out.1.cell 7
        have k8 : wr.cell? ⟨w.heap.size + 1, 8, none⟩ = some (.int .i64 n3) := HE.out.1.cell 8
        have k9 : wr.cell? ⟨w.heap.size + 1, 9, none⟩ = some (.int .i64 n4) := HE.out.1.cell 9
        have k10 : wr.cell? ⟨w.heap.size + 1, 10, none⟩ = some (.int .i64 n5) := HE.out.1.cell 10
        have k11 : wr.cell? ⟨w.heap.size + 1, 11, none⟩ = some (.int .i64 n6) := HE.out.1.cell 11
        have k12 : wr.cell? ⟨w.heap.size + 1, 12, none⟩ = some (.int .i64 n7) := HE.out.1.cell 12
        have o0 : wr.cell? ⟨w.heap.size, 0, none⟩ = some (.int .i64 0) := hin.out.2.2.1.cell 0
        have f0 := hin.out.2.2.1.frozen 0
        have o1 : wr.cell? ⟨w.heap.size, 1, none⟩ = some (.int .i32 0) := hin.out.2.2.1.cell 1
        have f1 := hin.out.2.2.1.frozen 1
        have o2 : wr.cell? ⟨w.heap.size, 2, none⟩ = some (.int .u8 0) := hin.out.2.2.1.cell 2
        have f2 := hin.out.2.2.1.frozen 2
        have o3 : wr.cell? ⟨w.heap.size, 3, none⟩ = some (.int .u8 0) := hin.out.2.2.1.cell 3
        have f3 := hin.out.2.2.1.frozen 3
        have o4 : wr.cell? ⟨w.heap.size, 4, none⟩ = some (.int .i64 0) := hin.out.2.2.1.cell 4
        have f4 := hin.out.2.2.1.frozen 4
        have o5 : wr.cell? ⟨w.heap.size, 5, none⟩ = some (.int .i64 0) := hin.out.2.2.1.cell 5
        have f5 := hin.out.2.2.1.frozen 5
        have o6 : wr.cell? ⟨w.heap.size, 6, none⟩ = some (.int .i64 0) := hin.out.2.2.1.cell 6
        have f6 := hin.out.2.2.1.frozen 6
        have o7 : wr.cell? ⟨w.heap.size, 7, none⟩ = some (.int .i64 0) := hin.out.2.2.1.cell 7
        have f7 := hin.out.2.2.1.frozen 7
        have o8 : wr.cell? ⟨w.heap.size, 8, none⟩ = some (.int .i64 0) := hin.out.2.2.1.cell 8
        have f8 := hin.out.2.2.1.frozen 8
        have o9 : wr.cell? ⟨w.heap.size, 9, none⟩ = some (.int .i64 0) := hin.out.2.2.1.cell 9
        have f9 := hin.out.2.2.1.frozen 9
        have o10 : wr.cell? ⟨w.heap.size, 10, none⟩ = some (.int .i64 0) := hin.out.2.2.1.cell 10
        have f10 := hin.out.2.2.1.frozen 10
        have o11 : wr.cell? ⟨w.heap.size, 11, none⟩ = some (.int .i64 0) := hin.out.2.2.1.cell 11
        have f11 := hin.out.2.2.1.frozen 11
        have o12 : wr.cell? ⟨w.heap.size, 12, none⟩ = some (.int .i64 0) := hin.out.2.2.1.cell 12
        have f12 := hin.out.2.2.1.frozen 12
        go_wp2
        have hout := act_laid hin.out.2.2.1 hin.out.2.2.2 (Nat.le_refl _) 4 109 0 0 i n0 n1 n2 n3 n4 n5 n6 n7
        exact ret_act' rfl rfl rfl hout.1 rfl ⟨n0, n1, n2, n3, n4, n5, n6, n7, by rw [HM.out], by rw [HM.out]; exact HE.out.2, hout.2⟩
    · have hiN : ¬ (i : Int) < (N : Int) := by omega
      have hi2 : i = min N 8 := by have := hin.out.1; omega
      obtain ⟨n0, n1, n2, n3, n4, n5, n6, n7, e8⟩ := eight' _ (padP_len l (min N 8) (by rw [H.out.2]; omega) (by omega))
      have hb := hin.out.2.1
      rw [hi2, e8] at hb
      have hbl : Blk wr (w.heap.size + 1) 28 (actN 4 109 0 0 ((min N 8 : Nat) : Int) n0 n1 n2 n3 n4 n5 n6 n7) := hb
      clear hb
      generalize hM : min N 8 = M at hi2 hbl e8
      subst hi2
      have HM := Lib.hid hM; clear hM
      have HE := Lib.hid (And.intro hbl e8); clear hbl e8
      have k0 : wr.cell? ⟨w.heap.size + 1, 0, none⟩ = some (.int .i64 4) := HE.out.1.cell 0
      have k1 : wr.cell? ⟨w.heap.size + 1, 1, none⟩ = some (.int .i32 109) := HE.out.1.cell 1
      have k2 : wr.cell? ⟨w.heap.size + 1, 2, none⟩ = some (.int .u8 0) := HE.out.1.cell 2
      have k3 : wr.cell? ⟨w.heap.size + 1, 3, none⟩ = some (.int .u8 0) := HE.out.1.cell 3
      have k4 : wr.cell? ⟨w.heap.size + 1, 4, none⟩ = some (.int .i64 i) := HE.out.1.cell 4
      have k5 : wr.cell? ⟨w.heap.size + 1, 5, none⟩ = some (.int .i64 n0) := HE.out.1.cell 5
      have k6 : wr.cell? ⟨w.heap.size + 1, 6, none⟩ = some (.int .i64 n1) := HE.out.1.cell 6
      have k7 : wr.cell? ⟨w.heap.size + 1, 7, none⟩ = some (.int .i64 n2) := HE.out.1.cell 7
      have k8 : wr.cell? ⟨w.heap.size + 1, 8, none⟩ = some (.int .i64 n3) := HE.out.1.cell 8
      have k9 : wr.cell? ⟨w.heap.size + 1, 9, none⟩ = some (.int .i64 n4) := HE.out.1.cell 9
      have k10 : wr.cell? ⟨w.heap.size + 1, 10, none⟩ = some (.int .i64 n5) := HE.out.1.cell 10
      have k11 : wr.cell? ⟨w.heap.size + 1, 11, none⟩ = some (.int .i64 n6) := HE.out.1.cell 11
      have k12 : wr.cell? ⟨w.heap.size + 1, 12, none⟩ = some (.int .i64 n7) := HE.out.1.cell 12
      have o0 : wr.cell? ⟨w.heap.size, 0, none⟩ = some (.int .i64 0) := hin.out.2.2.1.cell 0
      have f0 := hin.out.2.2.1.frozen 0
      have o1 : wr.cell? ⟨w.heap.size, 1, none⟩ = some (.int .i32 0) := hin.out.2.2.1.cell 1
      have f1 := hin.out.2.2.1.frozen 1
      have o2 : wr.cell? ⟨w.heap.size, 2, none⟩ = some (.int .u8 0) := hin.out.2.2.1.cell 2
      have f2 := hin.out.2.2.1.frozen 2
      have o3 : wr.cell? ⟨w.heap.size, 3, none⟩ = some (.int .u8 0) := hin.out.2.2.1.cell 3
      have f3 := hin.out.2.2.1.frozen 3
      have o4 : wr.cell? ⟨w.heap.size, 4, none⟩ = some (.int .i64 0) := hin.out.2.2.1.cell 4
      have f4 := hin.out.2.2.1.frozen 4
      have o5 : wr.cell? ⟨w.heap.size, 5, none⟩ = some (.int .i64 0) := hin.out.2.2.1.cell 5
      have f5 := hin.out.2.2.1.frozen 5
      have o6 : wr.cell? ⟨w.heap.size, 6, none⟩ = some (.int .i64 0) := hin.out.2.2.1.cell 6
      have f6 := hin.out.2.2.1.frozen 6
      have o7 : wr.cell? ⟨w.heap.size, 7, none⟩ = some (.int .i64 0) := hin.out.2.2.1.cell 7
      have f7 := hin.out.2.2.1.frozen 7
      have o8 : wr.cell? ⟨w.heap.size, 8, none⟩ = some (.int .i64 0) := hin.out.2.2.1.cell 8
      have f8 := hin.out.2.2.1.frozen 8
      have o9 : wr.cell? ⟨w.heap.size, 9, none⟩ = some (.int .i64 0) := hin.out.2.2.1.cell 9
      have f9 := hin.out.2.2.1.frozen 9
      have o10 : wr.cell? ⟨w.heap.size, 10, none⟩ = some (.int .i64 0) := hin.out.2.2.1.cell 10
      have f10 := hin.out.2.2.1.frozen 10
      have o11 : wr.cell? ⟨w.heap.size, 11, none⟩ = some (.int .i64 0) := hin.out.2.2.1.cell 11
      have f11 := hin.out.2.2.1.frozen 11
      have o12 : wr.cell? ⟨w.heap.size, 12, none⟩ = some (.int .i64 0) := hin.out.2.2.1.cell 12
      have f12 := hin.out.2.2.1.frozen 12
      go_wp2
      have hout := act_laid hin.out.2.2.1 hin.out.2.2.2 (Nat.le_refl _) 4 109 0 0 i n0 n1 n2 n3 n4 n5 n6 n7
      exact ret_act' rfl rfl rfl hout.1 rfl ⟨n0, n1, n2, n3, n4, n5, n6, n7, by rw [HM.out], by rw [HM.out]; exact HE.out.2, hout.2⟩
end Go.Proofs.YtgnknliaeoblhabDoor
namespace Go.Proofs.YtgnknliaeoblhabDoor
open Go Go.RowKit

/-- A world that meets a condition. -/
structure In (Z : World → Prop) where
  val : World
  prop : Z val
theorem wp_region_class {P : Program} {id : Nat} {Q : Exit → Act → World → Prop} {a : Act} {w : World} {l : List Oper} (Z : World → Prop) (hm : P.follows .mixedOrders = true) (hB : Region.lexB .any l.toArray = true) (hC : Z w.drew)
    (h : wpQuiet P l.toArray (fun w' => ∃ n : In Z, w' = n.val) (fun a' => ∀ w', (∃ n : In Z, w' = n.val) → Q .normal a' w') l a) : (Code.region id l.toArray true).wp P Q a w :=
  wp_region_quiet (C := fun w' => ∃ n : In Z, w' = n.val) hm hB ⟨⟨_, hC⟩, rfl⟩ (by simpa using h)
theorem quiet_class {P : Program} {f : FuncId} {args : Array Value} {v : Value} {Z : World → Prop} (h : ∀ W, Z W → Calls P f args W fun e w' => e = .returned v ∧ Z w') (n : In Z) :
    Calls P f args n.val fun e w'' => e = .returned v ∧ ∃ m : In Z, w'' = m.val :=
  (h n.val n.prop).mono fun _ _ ⟨he, hz⟩ => ⟨he, ⟨_, hz⟩, rfl⟩
end Go.Proofs.YtgnknliaeoblhabDoor
namespace Go.Proofs.YtgnknliaeoblhabDoor
open Go Go.RowKit

theorem IsInts.of_blk {W : World} {g : Nat} {t : TypeId} {l : List Int} (h : Blk W g t (l.map fun x => Value.int .i64 x).toArray) (hk : ∀ x, x ∈ l → isI64 x) : IsInts W (.slice (some ⟨g, 0, none⟩) l.length l.length) l := by
  refine ⟨_, _, rfl, ⟨Nat.le_refl _, fun e => by cases e⟩, fun i n hi => ⟨hk n (List.mem_of_getElem? hi), g, 0, rfl, ?_⟩⟩
  rw [Nat.zero_add, Blk.cell h i, List.getElem?_toArray, List.getElem?_map, hi]; rfl
theorem awake_pen : penP ⟨0, 0, 0, 0⟩ 4 109 0 0 5 [1, 38, 5, 9, 7, 0, 0, 0] = ⟨0, 9, 0, 33⟩ := by decide +kernel
set_option maxHeartbeats 2000000 in
set_option maxRecDepth 100000 in
theorem awakeP_true (w : World) (hW : Ways w) : Calls Tryd.prog 7 #[] w fun e w' => e = .returned (.bool true) ∧ Ext w w' := by
  have H := Lib.hid (fun V (h : Ext w V) => Apply_of ⟨0, 0, 0, 0⟩ 4 109 0 0 5 1 38 5 9 7 0 0 0 V (hW.ext h)); clear hW
  rw [awake_pen] at H
  go_enter Tryd.func7, Tryd.ntmps7
  go_wp2_with fail
  refine (H.out _ (Ext.refl w)).mono ?_
  rintro e w1 ⟨rfl, hx⟩
  dsimp only [Cel.val]
  have H1 := Lib.hid hx; clear hx
  go_wp2
  go_ret
  exact ⟨rfl, H1.out.alloc _⟩
theorem low8 (m : Int) : ∃ K : Nat, K < 256 ∧ bits .and .i64 m 255 = (K : Int) := by
  have h := i64_mask m 8 (by decide) 255 (by decide)
  have e : ((2 ^ 8 : Nat) : Int) = 256 := by decide
  rw [e] at h
  exact ⟨(m % 256).toNat, by omega, by rw [h]; omega⟩
theorem col48 (k : Nat) (h : k < 256) : penP ⟨0, 0, 0, 0⟩ 4 109 0 0 3 [48, 5, k, 0, 0, 0, 0, 0] = ⟨0, 0, max (k : Int) 1, 0⟩ := by
  have e : penP ⟨0, 0, 0, 0⟩ 4 109 0 0 3 [48, 5, k, 0, 0, 0, 0, 0] = ⟨0, 0, if 0 ≤ (k : Int) ∧ (k : Int) ≤ 255 then colP k else 0, 0⟩ := rfl
  rw [e, if_pos (by omega)]; rfl
theorem col38 : penP ⟨0, 0, 0, 0⟩ 4 109 0 0 3 [38, 5, 0, 0, 0, 0, 0, 0] = ⟨0, 1, 0, 0⟩ := by decide +kernel
theorem pad38 : padP [38, 5, 0] 3 = [38, 5, 0, 0, 0, 0, 0, 0] := by decide
set_option maxHeartbeats 4000000 in
set_option maxRecDepth 100000 in
theorem penColours_true (q0 q1 q2 n : Int) (w : World) (hW : Ways w) : Calls Tryd.prog 6 #[.agg #[.int .i64 q0, .int .i64 q1, .int .i64 q2], .int .i64 n] w fun e w' => e = .returned (.bool true) ∧ Ext w w' := by
  have hb1 := rgbP_in q0 q1 q2
  have hb2 := rgbP_in (max q0 100) (max q1 100) (max q2 100)
  have hb3 : rgbP q0 q1 q2 ≤ rgbP (max q0 100) (max q1 100) (max q2 100) := rgbP_mono (by omega) (by omega) (by omega)
  have hc1 := fun V => Colour_of q0 q1 q2 V
  have hc2 := fun V => Colour_of (max q0 100) (max q1 100) (max q2 100) V
  obtain ⟨K, hK, hKb⟩ := low8 n
  have HC := Lib.hid (And.intro hc1 (And.intro hc2 hW)); clear hc1 hc2 hW
  generalize rgbP q0 q1 q2 = a at HC hb1 hb3
  generalize rgbP (max q0 100) (max q1 100) (max q2 100) = b at HC hb2 hb3
  generalize hm0 : max q0 100 = m0 at HC
  generalize hm1 : max q1 100 = m1 at HC
  generalize hm2 : max q2 100 = m2 at HC
  have ha64 : wrap64 a = a := by unfold wrap64; omega
  have hb64 : wrap64 b = b := by unfold wrap64; omega
  have hblk : Blk (w.alloc (.cells #[.int .i64 q0, .int .i64 q1, .int .i64 q2] 43)) w.heap.size 43 #[.int .i64 q0, .int .i64 q1, .int .i64 q2] := Go.heap_alloc_new w _
  have hx0 : Ext w (w.alloc (.cells #[.int .i64 q0, .int .i64 q1, .int .i64 q2] 43)) := (Ext.refl w).alloc _
  have HB := Lib.hid (And.intro hblk hx0); clear hblk hx0
  go_enter Tryd.func6, Tryd.ntmps6
  go_wp2_with fail
  refine (awakeP_true _ (HC.out.2.2.ext HB.out.2)).mono ?_
  rintro e w1 ⟨rfl, hx⟩
  have H1 := Lib.hid (And.intro (Blk.ext HB.out.1 hx) (HB.out.2.trans hx)); clear hx HB
  have k0 : w1.cell? ⟨w.heap.size, 0, none⟩ = some (.int .i64 q0) := H1.out.1.cell 0
  have k1 : w1.cell? ⟨w.heap.size, 1, none⟩ = some (.int .i64 q1) := H1.out.1.cell 1
  have k2 : w1.cell? ⟨w.heap.size, 2, none⟩ = some (.int .i64 q2) := H1.out.1.cell 2
  go_wp2_with fail
  refine (HC.out.1 _).mono ?_
  rintro e w2 ⟨rfl, hx⟩
  have H2 := Lib.hid (And.intro (Blk.ext H1.out.1 hx) (H1.out.2.trans hx)); clear hx H1 k0 k1 k2
  have k0 : w2.cell? ⟨w.heap.size, 0, none⟩ = some (.int .i64 q0) := H2.out.1.cell 0
  have k1 : w2.cell? ⟨w.heap.size, 1, none⟩ = some (.int .i64 q1) := H2.out.1.cell 1
  have k2 : w2.cell? ⟨w.heap.size, 2, none⟩ = some (.int .i64 q2) := H2.out.1.cell 2
  go_wp2_with fail
  refine (HC.out.2.1 _).mono ?_
  rintro e w3 ⟨rfl, hx⟩
  have H3 := Lib.hid (H2.out.2.trans hx); clear hx H2 k0 k1 k2
  go_wp2_with fail
  have hi3 : IsInts (w3.alloc (.cells #[.int .i64 38, .int .i64 5, .int .i64 0] 3)) (.slice (some ⟨w3.heap.size, 0, none⟩) 3 3) [38, 5, 0] := IsInts.of_blk (l := [38, 5, 0]) (t := 3) (Go.heap_alloc_new w3 _) (by intro x hx; simp at hx; unfold isI64; omega)
  refine (act_of [38, 5, 0] _ _ hi3 (by decide)).mono ?_
  rintro e w4 ⟨n0, n1, n2, n3, n4, n5, n6, n7, rfl, hp, hx⟩
  rw [show min ([38, 5, 0] : List Int).length 8 = 3 from rfl, pad38] at hp
  injection hp with e0 hp
  injection hp with e1 hp
  injection hp with e2 hp
  injection hp with e3 hp
  injection hp with e4 hp
  injection hp with e5 hp
  injection hp with e6 hp
  injection hp with e7 hp
  subst e0 e1 e2 e3 e4 e5 e6 e7
  rw [show ((min ([38, 5, 0] : List Int).length 8 : Nat) : Int) = 3 from rfl]
  have H4 := Lib.hid ((H3.out.alloc (.cells #[.int .i64 38, .int .i64 5, .int .i64 0] 3)).trans hx); clear hx hi3 hp H3
  have HA := Lib.hid (Apply_of ⟨0, 0, 0, 0⟩ 4 109 0 0 3 38 5 0 0 0 0 0 0 w4 (HC.out.2.2.ext H4.out))
  rw [col38] at HA
  go_wp2_with fail
  refine HA.out.mono ?_
  rintro e w5 ⟨rfl, hx⟩
  dsimp only [Cel.val]
  have HBl := Lib.hid (show Blk (w5.alloc (.cells #[.int .i32 0, .int .u8 1, .int .u8 0, .int .u8 0] 23)) w5.heap.size 23 #[.int .i32 0, .int .u8 1, .int .u8 0, .int .u8 0] from Go.heap_alloc_new w5 _)
  have H5 := Lib.hid ((H4.out.trans hx).alloc (.cells #[.int .i32 0, .int .u8 1, .int .u8 0, .int .u8 0] 23)); clear hx HA H4
  have HA := Lib.hid (Apply_of ⟨0, 0, 0, 0⟩ 4 109 0 0 3 48 5 K 0 0 0 0 0 _ (HC.out.2.2.ext H5.out))
  rw [col48 K hK] at HA
  go_wp2_with fail
  refine HA.out.mono ?_
  rintro e w6 ⟨rfl, hx⟩
  dsimp only [Cel.val]
  have c1 : w6.cell? ⟨w5.heap.size, 1, none⟩ = some (.int .u8 1) := Blk.cell (Blk.ext HBl.out hx) 1
  have hx6 := Lib.hid (H5.out.trans hx); clear hx HA H5 HBl
  obtain ⟨Z, hZ⟩ : ∃ Z, max (K : Int) 1 = Z := ⟨_, rfl⟩
  have hZ8 : 1 ≤ Z ∧ Z ≤ 255 := by omega
  have hZw : wrap64 Z = Z := by unfold wrap64; omega
  rw [hZ]
  have hlt : w5.heap.size < w6.heap.size := lt_of_cell c1
  go_wp2
  go_ret
  exact ⟨by simp, hx6.out.alloc _⟩
end Go.Proofs.YtgnknliaeoblhabDoor
namespace Go.Proofs.YtgnknliaeoblhabDoor
open Go Go.RowKit

/-- A slice that reads as a row of cells. -/
def IsCells (w : World) (v : Value) (l : List Cel) : Prop :=
  ∃ A c, v = .slice A l.length c ∧ (l.length ≤ c ∧ (A = none → c = 0)) ∧ ∀ i x, l[i]? = some x → x.ok ∧ ∃ g off, A = some ⟨g, off, none⟩ ∧ CelAt w g (off + i * 4) x
theorem IsCells.ext {w w' : World} {v : Value} {l : List Cel} (h : IsCells w v l) (hx : Ext w w') : IsCells w' v l := by
  obtain ⟨A, c, e, hc, h⟩ := h
  refine ⟨A, c, e, hc, fun i n hi => ?_⟩
  obtain ⟨h1, g, off, h2, h3⟩ := h i n hi
  exact ⟨h1, g, off, h2, h3.ext hx⟩
theorem IsCells.all {w : World} {v : Value} {l : List Cel} (h : IsCells w v l) : ∀ x, x ∈ l → x.ok := by
  obtain ⟨A, c, e, hc, h⟩ := h
  intro n hn
  obtain ⟨i, hi⟩ := List.getElem?_of_mem hn
  exact (h i n hi).1
theorem IsCells.form {w : World} {v : Value} {l : List Cel} (h : IsCells w v l) : ∃ A c, v = .slice A l.length c ∧ l.length ≤ c ∧ (A = none → c = 0) := by
  obtain ⟨A, c, e, hc, _⟩ := h
  exact ⟨A, c, e, hc.1, hc.2⟩
theorem IsCells.at {w : World} {A : Option Addr} {n c : Nat} {l : List Cel} (h : IsCells w (.slice A n c) l) {i : Nat} {x : Cel} (hi : l[i]? = some x) : x.ok ∧ ∃ g off, A = some ⟨g, off, none⟩ ∧ CelAt w g (off + i * 4) x := by
  obtain ⟨A', c', e, _, h⟩ := h
  injection e with e1 _ _
  subst e1
  exact h i x hi
theorem IsCells.at' {w : World} {g off n c : Nat} {l : List Cel} (h : IsCells w (.slice (some ⟨g, off, none⟩) n c) l) {i : Nat} {x : Cel} (hi : l[i]? = some x) : x.ok ∧ CelAt w g (off + i * 4) x := by
  obtain ⟨h1, g', off', e, hc⟩ := h.at hi
  injection e with e
  injection e with e1 e2 _
  subst e1 e2
  exact ⟨h1, hc⟩
theorem IsCells.addr {w : World} {A : Option Addr} {n c : Nat} {l : List Cel} (h : IsCells w (.slice A n c) l) (hk : 0 < l.length) : ∃ g off, A = some ⟨g, off, none⟩ := by
  obtain ⟨_, g, off, e, _⟩ := h.at (List.getElem?_eq_getElem hk)
  exact ⟨g, off, e⟩
theorem IsCells.len {w : World} {A : Option Addr} {n c : Nat} {l : List Cel} (h : IsCells w (.slice A n c) l) : n = l.length ∧ n ≤ c := by
  obtain ⟨A', c', e, hc, _⟩ := h
  injection e with _ e2 e3
  subst e2 e3
  exact ⟨rfl, hc.1⟩
theorem IsCells.cut {w : World} {A : Option Addr} {n c : Nat} {l : List Cel} (h : IsCells w (.slice A n c) l) (k : Nat) (hk : k ≤ l.length) : IsCells w (.slice A k c) (l.take k) := by
  obtain ⟨A', c', e, hc, h⟩ := h
  injection e with e1 _ e3
  subst e1 e3
  have hl : (l.take k).length = k := by rw [List.length_take]; omega
  refine ⟨A, c, by rw [hl], ⟨by have := hc.1; omega, hc.2⟩, fun i x hi => ?_⟩
  have hik : i < k := by
    have := (List.getElem?_eq_some_iff.1 hi).1
    omega
  rw [List.getElem?_take_of_lt hik] at hi
  exact h i x hi
theorem IsCells.drop {w : World} {g off n c : Nat} {l : List Cel} (h : IsCells w (.slice (some ⟨g, off, none⟩) n c) l) (k : Nat) (hk : k ≤ l.length) : IsCells w (.slice (some ⟨g, off + k * 4, none⟩) (l.length - k) (c - k)) (l.drop k) := by
  have hn := h.len
  refine ⟨some ⟨g, off + k * 4, none⟩, c - k, by rw [List.length_drop], ⟨by rw [List.length_drop]; omega, fun e => by cases e⟩, fun i x hi => ?_⟩
  rw [List.getElem?_drop] at hi
  obtain ⟨h1, h2⟩ := h.at' hi
  refine ⟨h1, g, off + k * 4, rfl, ?_⟩
  rwa [show off + k * 4 + i * 4 = off + (k + i) * 4 by omega]
theorem IsCells.none {w : World} {n c : Nat} {l : List Cel} (h : IsCells w (.slice none n c) l) : l = [] ∧ n = 0 ∧ c = 0 := by
  obtain ⟨A', c', e, hc, _⟩ := h
  injection e with e1 e2 e3
  subst e1 e2 e3
  have h0 := hc.2 rfl
  subst h0
  have h1 : l.length = 0 := by have := hc.1; omega
  exact ⟨List.eq_nil_of_length_eq_zero h1, h1, rfl⟩
/-- The first so many of a row of cells. -/
def fewC (l : List Cel) (k : Nat) : List Cel := if k < l.length then l.take k else l
theorem fewC_len (l : List Cel) (k : Nat) : (fewC l k).length ≤ k := by
  unfold fewC; split
  · rw [List.length_take]; omega
  · omega
/-- A row of cells of the call's own. -/
def cellsC (l : List Cel) : List Value := l.flatMap Cel.cells
theorem cellsC_append (a b : List Cel) : cellsC (a ++ b) = cellsC a ++ cellsC b := by simp [cellsC]
theorem cellsC_nil : cellsC [] = [] := rfl
theorem cellsC_cons (c : Cel) (l : List Cel) : cellsC (c :: l) = c.cells ++ cellsC l := rfl
theorem cellsC_len : ∀ (l : List Cel), (cellsC l).length = l.length * 4
  | [] => rfl
  | c :: l => by rw [cellsC_cons, List.length_append, cellsC_len l]; simp [Cel.cells]; omega
theorem cellsC_one (l : List Cel) : ∀ u ∈ cellsC l, u.oneCell' = true := by
  intro u hu
  obtain ⟨c, _, hc⟩ := List.mem_flatMap.1 hu
  simp only [Cel.cells, List.mem_cons, List.not_mem_nil, or_false] at hc
  rcases hc with rfl | rfl | rfl | rfl <;> rfl
theorem cellsC_at : ∀ (l : List Cel) (i j : Nat) (c : Cel) (u : Value), l[i]? = some c → c.cells[j]? = some u → (cellsC l)[i * 4 + j]? = some u
  | [], _, _, _, _, h, _ => by cases h
  | d :: l, 0, j, c, u, h, hj => by
    obtain rfl : d = c := by simpa using h
    rw [cellsC_cons, Nat.zero_mul, Nat.zero_add, List.getElem?_append_left (List.getElem?_eq_some_iff.1 hj).1]
    exact hj
  | d :: l, i + 1, j, c, u, h, hj => by
    have hd : d.cells.length = 4 := rfl
    rw [cellsC_cons, List.getElem?_append_right (by omega), hd, show (i + 1) * 4 + j - 4 = i * 4 + j by omega]
    exact cellsC_at l i j c u h hj
def OwnC (w : World) (base : Nat) (v : Value) (l : List Cel) : Prop := w.ownsRow base 23 4 v l.length (cellsC l)
theorem infoCell : (Tryd.prog.info? 23).map (fun i => (i.zero, i.size, i.bytes)) = some (some (.agg #[.int .i32 0, .int .u8 0, .int .u8 0, .int .u8 0]), 4, 8) := by kernel_rfl
theorem OwnC.nil (w : World) (base : Nat) : OwnC w base (.slice none 0 0) [] := World.ownsRow_nil _ _ _ _
theorem OwnC.more {w : World} {base : Nat} {v : Value} {l m : List Cel} (h : w.ownsRow base 23 4 v (l.length + m.length) (cellsC l ++ cellsC m)) : OwnC w base v (l ++ m) := by
  unfold OwnC
  rw [List.length_append, cellsC_append]; exact h
theorem own_kept4 {w w' : World} {base n z : Nat} {e : TypeId} {v : Value} {xs : List Value} (h : w.ownsRow base e z v n xs) (hk : ∀ g, base ≤ g → g < w.heap.size → w'.heap[g]? = w.heap[g]?) : w'.ownsRow base e z v n xs := by
  obtain ⟨h1, h2⟩ := h
  refine ⟨h1, ?_⟩
  rcases h2 with h2 | ⟨g, cap, cur, e1, e2, e3, e4⟩
  · exact .inl h2
  · refine .inr ⟨g, cap, cur, e1, e2, ?_, e4⟩
    have hlt : g < w.heap.size := by
      rcases Nat.lt_or_ge g w.heap.size with h | h
      · exact h
      · rw [Array.getElem?_eq_none h] at e3; cases e3
    rw [hk g e2 hlt, e3]
theorem OwnC.ext {w w' : World} {base : Nat} {v : Value} {l : List Cel} (h : OwnC w base v l) (hx : Ext w w') : OwnC w' base v l := own_kept4 h fun g _ hg => hx.block g hg
theorem OwnC.low {w : World} {B B' : Nat} {v : Value} {l : List Cel} (h : OwnC w B v l) (hb : B' ≤ B) : OwnC w B' v l := ownsRow_low h hb
theorem OwnC.isCells {w : World} {base : Nat} {v : Value} {l : List Cel} (h : OwnC w base v l) (ha : ∀ x, x ∈ l → x.ok) : IsCells w v l := by
  have hc := fun {g} => World.ownsRow.cells (g := g) h
  obtain ⟨_, h2⟩ := h
  rcases h2 with ⟨rfl, h0⟩ | ⟨g, cap, cur, rfl, _, _, hn, _⟩
  · obtain rfl := List.eq_nil_of_length_eq_zero h0
    exact ⟨none, 0, rfl, ⟨Nat.le_refl _, fun _ => rfl⟩, fun i n hi => by cases hi⟩
  · refine ⟨_, cap, rfl, ⟨hn, fun e => by cases e⟩, fun i x hi => ⟨ha x (List.mem_of_getElem? hi), g, 0, rfl, fun j u hu => ?_⟩⟩
    have := hc (g := g) rfl (i * 4 + j) u (cellsC_at l i j x u hi hu)
    rw [add_off] at this
    rw [Nat.add_assoc]
    exact this
theorem OwnC.form {w : World} {base : Nat} {v : Value} {l : List Cel} (h : OwnC w base v l) : ∃ A c, v = .slice A l.length c ∧ (A = none → l.length = 0 ∧ c = 0) := by
  rcases h.2 with ⟨rfl, h0⟩ | ⟨g, cap, cur, rfl, _, _, hn, _⟩
  · exact ⟨none, 0, by rw [h0], fun _ => ⟨h0, rfl⟩⟩
  · exact ⟨_, cap, rfl, fun e => by cases e⟩
theorem IsCells.news {w : World} {A : Option Addr} {n c : Nat} {l : List Cel} (h : IsCells w (.slice A n c) l) : ∀ B, A = some B → ∀ j u, (cellsC l)[j]? = some u → w.cell? (B.add j) = some u := by
  intro B hB j u hu
  subst hB
  have hj : j < l.length * 4 := by rw [← cellsC_len]; exact (List.getElem?_eq_some_iff.1 hu).1
  have hi : l[j / 4]? = some (l[j / 4]'(by omega)) := List.getElem?_eq_getElem (by omega)
  obtain ⟨_, g, off, e, hat⟩ := h.at hi
  obtain rfl := Option.some.inj e
  rw [add_off]
  have hy4 : j % 4 < (l[j / 4]'(by omega)).cells.length := Nat.mod_lt _ (by decide)
  obtain ⟨y, hy⟩ : ∃ y, (l[j / 4]'(by omega)).cells[j % 4]? = some y := ⟨_, List.getElem?_eq_getElem hy4⟩
  have h2 := cellsC_at l (j / 4) (j % 4) _ y hi hy
  rw [show j / 4 * 4 + j % 4 = j by omega] at h2
  rw [h2] at hu
  injection hu with hu
  subst hu
  have := hat (j % 4) y hy
  rwa [show off + j / 4 * 4 + j % 4 = off + j by omega] at this
theorem ext_grown4 {w0 w w' : World} {base n z : Nat} {e : TypeId} {v : Value} {xs : List Value} (h : Ext w0 w) (ho : w.ownsRow base e z v n xs) (hg : w.grownBy w' v.ownBlock) (hb : w0.heap.size ≤ base) : Ext w0 w' :=
  Below.grown h hg h.size fun k hk => by have := (ho.lt k hk).1; omega
/-- A row that a call lays out itself. -/
theorem OwnC.new (w : World) (l : List Cel) (hm : l.length ≤ maxLen) : OwnC (w.alloc (.cells (cellsC l).toArray 23)) w.heap.size (.slice (some ⟨w.heap.size, 0, none⟩) l.length l.length) l := by
  refine ⟨cellsC_len l, .inr ⟨w.heap.size, l.length, (cellsC l).toArray, rfl, Nat.le_refl _, Go.heap_alloc_new _ _, Nat.le_refl _, hm, by simp [cellsC_len], ?_⟩⟩
  rw [← cellsC_len, List.take_length]
end Go.Proofs.YtgnknliaeoblhabDoor
namespace Go.Proofs.YtgnknliaeoblhabDoor
open Go Go.RowKit
attribute [local go_sem 10000] eq_cel

theorem CelAt.four {w : World} {g o : Nat} {r f b a : Int} (h : CelAt w g o ⟨r, f, b, a⟩) : w.cell? ⟨g, o, none⟩ = some (.int .i32 r) ∧ w.cell? ⟨g, o + 1, none⟩ = some (.int .u8 f) ∧ w.cell? ⟨g, o + 2, none⟩ = some (.int .u8 b) ∧ w.cell? ⟨g, o + 3, none⟩ = some (.int .u8 a) :=
  ⟨h 0 _ rfl, h 1 _ rfl, h 2 _ rfl, h 3 _ rfl⟩
theorem CelAt.four0 {w : World} {g : Nat} {r f b a : Int} (h : CelAt w g 0 ⟨r, f, b, a⟩) : w.cell? ⟨g, 0, none⟩ = some (.int .i32 r) ∧ w.cell? ⟨g, 1, none⟩ = some (.int .u8 f) ∧ w.cell? ⟨g, 2, none⟩ = some (.int .u8 b) ∧ w.cell? ⟨g, 3, none⟩ = some (.int .u8 a) :=
  ⟨h 0 _ rfl, h 1 _ rfl, h 2 _ rfl, h 3 _ rfl⟩
/-- In the class of the worlds that lie behind one. -/
theorem quiet_ext {P : Program} {w0 : World} {f : FuncId} {args : Array Value} {v : Value} (h : ∀ W, Ext w0 W → Calls P f args W fun e w' => e = .returned v ∧ Ext W w') (n : In (Ext w0)) :
    Calls P f args n.val fun e w'' => e = .returned v ∧ ∃ m : In (Ext w0), w'' = m.val :=
  quiet_class (Z := Ext w0) (fun W hW => (h W hW).mono fun _ _ ⟨he, hx⟩ => ⟨he, hW.trans hx⟩) n
theorem in_ext (w0 : World) : Nonempty (In (Ext w0)) := ⟨⟨_, Ext.refl w0⟩⟩
end Go.Proofs.YtgnknliaeoblhabDoor
namespace Go.Proofs.YtgnknliaeoblhabDoor
open Go Go.RowKit

/-- A row of numbers of the call's own. -/
def cellsI (l : List Int) : List Value := l.map fun n => .int .i64 n
theorem cellsI_append (a b : List Int) : cellsI (a ++ b) = cellsI a ++ cellsI b := List.map_append
theorem cellsI_len (l : List Int) : (cellsI l).length = l.length := List.length_map ..
theorem cellsI_one (l : List Int) : ∀ u ∈ cellsI l, u.oneCell' = true := by
  intro u hu
  obtain ⟨_, _, rfl⟩ := List.mem_map.1 hu
  rfl
def OwnI (w : World) (base : Nat) (v : Value) (l : List Int) : Prop := w.ownsRow base 3 1 v l.length (cellsI l)
theorem infoIntI : (Tryd.prog.info? 3).map (fun i => (i.zero, i.size, i.bytes)) = some (some (.int .i64 0), 1, 8) := by kernel_rfl
theorem OwnI.nil (w : World) (base : Nat) : OwnI w base (.slice none 0 0) [] := World.ownsRow_nil _ _ _ _
theorem OwnI.more {w : World} {base : Nat} {v : Value} {l m : List Int} (h : w.ownsRow base 3 1 v (l.length + m.length) (cellsI l ++ cellsI m)) : OwnI w base v (l ++ m) := by
  unfold OwnI
  rw [List.length_append, cellsI_append]; exact h
theorem OwnI.ext {w w' : World} {base : Nat} {v : Value} {l : List Int} (h : OwnI w base v l) (hx : Ext w w') : OwnI w' base v l := own_kept h fun g _ hg => hx.block g hg
theorem OwnI.only {w w' : World} {base d : Nat} {v : Value} {l : List Int} (h : OwnI w base v l) (hx : Only d w w') (hd : d < base) : OwnI w' base v l := own_kept h fun g hb hg => hx.block g (by omega) hg
theorem OwnI.low {w : World} {B B' : Nat} {v : Value} {l : List Int} (h : OwnI w B v l) (hb : B' ≤ B) : OwnI w B' v l := ownsRow_low h hb
theorem OwnI.isInts {w : World} {base : Nat} {v : Value} {l : List Int} (h : OwnI w base v l) (ha : ∀ n, n ∈ l → isI64 n) : IsInts w v l := by
  have hc := fun {g} => World.ownsRow.cells (g := g) h
  obtain ⟨_, h2⟩ := h
  rcases h2 with ⟨rfl, h0⟩ | ⟨g, cap, cur, rfl, _, _, hn, _⟩
  · obtain rfl := List.eq_nil_of_length_eq_zero h0
    exact ⟨none, 0, rfl, ⟨Nat.le_refl _, fun _ => rfl⟩, fun i n hi => by cases hi⟩
  · refine ⟨_, cap, rfl, ⟨hn, fun e => by cases e⟩, fun i n hi => ⟨ha n (List.mem_of_getElem? hi), g, 0, rfl, ?_⟩⟩
    have := hc (g := g) rfl i (.int .i64 n) (by rw [cellsI, List.getElem?_map, hi]; rfl)
    rw [add_off] at this
    exact this
theorem OwnI.form {w : World} {base : Nat} {v : Value} {l : List Int} (h : OwnI w base v l) : ∃ A c, v = .slice A l.length c ∧ (A = none → l.length = 0 ∧ c = 0) := by
  rcases h.2 with ⟨rfl, h0⟩ | ⟨g, cap, cur, rfl, _, _, hn, _⟩
  · exact ⟨none, 0, by rw [h0], fun _ => ⟨h0, rfl⟩⟩
  · exact ⟨_, cap, rfl, fun e => by cases e⟩
theorem OwnI.at {w : World} {base : Nat} {A : Option Addr} {n c : Nat} {l : List Int} (h : OwnI w base (.slice A n c) l) : ∀ B, A = some B → ∀ j u, (cellsI l)[j]? = some u → w.cell? (B.add j) = some u := by
  intro B hB j u hu
  subst hB
  rcases h.2 with ⟨e, _⟩ | ⟨g, cap, cur, e, _⟩
  · injection e with e1 _ _; cases e1
  · injection e with e1 _ _
    obtain rfl := Option.some.inj e1
    exact World.ownsRow.cells h rfl j u hu
/-- What an append of numbers leaves. -/
structure AppendedI (base : Nat) (v : Value) (W : World) (l : List Int) (v' : Value) (w' : World) : Prop where
  own : OwnI w' base v' l
  grown : W.grownBy w' v.ownBlock
section
variable {W : World} {ops : Array Oper} {rest : List Oper} {o : Oper} {a : Act} {Q : Exit → Act → World → Prop}
theorem wpList_app_int (hgd : o.guard = none) (s x : Operand) (ho : o.op = .call { callee := .builtin .append, args := #[s, x], argTypes := #[40, 40] })
    (base : Nat) (v : Value) (out : List Int) (hs : a.eval s = v) (hown : OwnI W base v out) (G : Nat) (r : Int) (hx : a.eval x = .slice (some ⟨G, 0, none⟩) 1 1) (hcell : W.cell? ⟨G, 0, none⟩ = some (.int .i64 r))
    (hlen : out.length ≤ 2000000) (hbase : base ≤ W.heap.size) (h : ∀ v' w', AppendedI base v W (out ++ [r]) v' w' → wpList Tryd.prog ops Q rest (a.put o.dst v') w') : wpList Tryd.prog ops Q (o :: rest) a W := by
  obtain ⟨i0, hi0, hz0, hz1, hz2⟩ := info_parts infoIntI
  refine wpList_append_own_at W hgd s x 40 ho base 3 i0 _ 1 8 Tryd.underlying40 hi0 hz0 hz1 hz2 rfl (by omega) v out.length (cellsI out) hs hown ⟨G, 0, none⟩ 1 1 [.int .i64 r] hx rfl ?_ (fun y hy => by rw [List.mem_singleton.1 hy]; rfl) (by unfold maxLen; omega) (by omega) hbase ?_
  · intro j u hj
    have hj0 : j = 0 := by
      have := (List.getElem?_eq_some_iff.1 hj).1
      simp at this; omega
    subst hj0
    rw [add_off, hcell]
    simpa using hj
  · intro v' w' h1 h2 _ _
    exact h v' w' ⟨OwnI.more (m := [r]) h1, h2⟩
end
end Go.Proofs.YtgnknliaeoblhabDoor
