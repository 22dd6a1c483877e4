/- The laws' acts, and the chapter's example. -/
import Derived.Test.YtgnknliaeoblhabDoorPenE
import Derived.Test.YtgnknliaeoblhabDoorCutInts
import Derived.Test.YtgnknliaeoblhabDoorMask
namespace Go.Proofs.YtgnknliaeoblhabDoor
open Go Go.RowKit

/-- A number's rest by 112. -/
def rest112 (x : Int) : Int := x % 112
theorem rest112_walk (a : Int) : (wrap64 (a.tmod 112 + 112)).tmod 112 = rest112 a := by
  have h1 := Int.tmod_lt_of_pos a (show (0 : Int) < 112 by decide)
  have h2 := Int.lt_tmod_of_pos a (show (0 : Int) < 112 by decide)
  have h0 : a.tmod 112 % 112 = a % 112 := by
    rw [Int.tmod_eq_emod]
    split <;> omega
  generalize a.tmod 112 = u at h0 h1 h2
  have e1 : wrap64 (u + 112) = u + 112 := by unfold wrap64; omega
  rw [e1, Int.tmod_eq_emod_of_nonneg (by omega)]
  unfold rest112
  omega
theorem rest112_in (x : Int) : 0 ≤ rest112 x ∧ rest112 x ≤ 111 := by unfold rest112; omega
theorem rest112_of {x : Int} (h : 0 ≤ x ∧ x ≤ 111) : rest112 x = x := by unfold rest112; omega
/-- An act's numbers behind so many. -/
def padP (l : List Int) (i : Nat) : List Int := (l.take i).map rest112 ++ List.replicate (8 - i) 0
theorem padP_len (l : List Int) (i : Nat) (hi : i ≤ l.length) (h8 : i ≤ 8) : (padP l i).length = 8 := by
  unfold padP
  simp; omega
theorem padP_next (l : List Int) (i : Nat) (x : Int) (h8 : i < 8) (hx : l[i]? = some x) : (padP l i).set i (rest112 x) = padP l (i + 1) := by
  have hi := (List.getElem?_eq_some_iff.1 hx).1
  have h1 : ((l.take i).map rest112).length = i := by simp; omega
  unfold padP
  rw [List.set_append_right _ _ (by omega), h1, Nat.sub_self, List.take_add_one, hx, List.map_append]
  obtain ⟨k, hk⟩ : ∃ k, 8 - i = k + 1 := ⟨8 - i - 1, by omega⟩
  rw [hk, show 8 - (i + 1) = k by omega, List.replicate_succ]
  simp
/-- An act's cells, as a list. -/
def actL (n : Int) (ns : List Int) : List Value := .int .i64 4 :: .int .i32 109 :: .int .u8 0 :: .int .u8 0 :: .int .i64 n :: ns.map fun x => Value.int .i64 x
theorem actL_set (n : Int) (ns : List Int) (i : Nat) (x : Int) : (actL n ns).toArray.setIfInBounds (5 + i) (.int .i64 x) = (actL n (ns.set i x)).toArray := by
  rw [List.setIfInBounds_toArray, show 5 + i = i + 5 by omega]
  unfold actL
  simp only [List.set_cons_succ, List.map_set]
theorem actL_n (n m : Int) (ns : List Int) : (actL n ns).toArray.setIfInBounds 4 (.int .i64 m) = (actL m ns).toArray := by
  rw [List.setIfInBounds_toArray]; rfl
theorem eight' {α : Type} (l : List α) (h : l.length = 8) : ∃ a b c d e f g k, l = [a, b, c, d, e, f, g, k] := by
  match l, h with
  | [a, b, c, d, e, f, g, k], _ => exact ⟨a, b, c, d, e, f, g, k, rfl⟩
theorem infoAct13' : (Tryd.prog.info? 28).map (·.size) = some 13 := by kernel_rfl
theorem ret_act' {fn : Func} {p : Tmp} (hr : fn.results = #[.cell p 28]) {Q : Ending → World → Prop} {a : Act} {w : World} {G : Nat} {cs : Array Value} (hd : a.defers = []) (hp : a.tmps.getD p undef = .pointer (some ⟨G, 0, none⟩))
    (hb : Blk w G 28 cs) (hz : cs.size = 13) (hq : Q (.returned (.agg cs)) w) : bodyPost Tryd.prog fn Q .ret a w := by
  obtain ⟨tm, df⟩ := a
  simp only at hd hp
  subst hd
  exact bodyPost_ret (results_cell_row hr _ _ G 28 cs (0, 0) _ hp hb Tryd.underlying28 rfl (by rw [hz]; exact infoAct13')) rfl hq
set_option maxRecDepth 100000 in
theorem act_laid {w W : World} {g : Nat} (h : Blk W g 28 (actN 0 0 0 0 0 0 0 0 0 0 0 0 0)) (hx : Ext w W) (hg : w.heap.size ≤ g) (k r p m n n0 n1 n2 n3 n4 n5 n6 n7 : Int) :
    Blk (((((((((((((W.setCell ⟨g, 0, none⟩ (.int .i64 k)).setCell ⟨g, 1, none⟩ (.int .i32 r)).setCell ⟨g, 2, none⟩ (.int .u8 p)).setCell ⟨g, 3, none⟩ (.int .u8 m)).setCell ⟨g, 4, none⟩ (.int .i64 n)).setCell ⟨g, 5, none⟩ (.int .i64 n0)).setCell ⟨g, 6, none⟩ (.int .i64 n1)).setCell ⟨g, 7, none⟩ (.int .i64 n2)).setCell ⟨g, 8, none⟩ (.int .i64 n3)).setCell ⟨g, 9, none⟩ (.int .i64 n4)).setCell ⟨g, 10, none⟩ (.int .i64 n5)).setCell ⟨g, 11, none⟩ (.int .i64 n6)).setCell ⟨g, 12, none⟩ (.int .i64 n7)) g 28 (actN k r p m n n0 n1 n2 n3 n4 n5 n6 n7) ∧ Ext w (((((((((((((W.setCell ⟨g, 0, none⟩ (.int .i64 k)).setCell ⟨g, 1, none⟩ (.int .i32 r)).setCell ⟨g, 2, none⟩ (.int .u8 p)).setCell ⟨g, 3, none⟩ (.int .u8 m)).setCell ⟨g, 4, none⟩ (.int .i64 n)).setCell ⟨g, 5, none⟩ (.int .i64 n0)).setCell ⟨g, 6, none⟩ (.int .i64 n1)).setCell ⟨g, 7, none⟩ (.int .i64 n2)).setCell ⟨g, 8, none⟩ (.int .i64 n3)).setCell ⟨g, 9, none⟩ (.int .i64 n4)).setCell ⟨g, 10, none⟩ (.int .i64 n5)).setCell ⟨g, 11, none⟩ (.int .i64 n6)).setCell ⟨g, 12, none⟩ (.int .i64 n7)) := by
  have h0 : Blk _ g 28 #[.int .i64 k, .int .i32 0, .int .u8 0, .int .u8 0, .int .i64 0, .int .i64 0, .int .i64 0, .int .i64 0, .int .i64 0, .int .i64 0, .int .i64 0, .int .i64 0, .int .i64 0] := Blk.set_ h 0 (.int .i64 k)
  have h1 : Blk _ g 28 #[.int .i64 k, .int .i32 r, .int .u8 0, .int .u8 0, .int .i64 0, .int .i64 0, .int .i64 0, .int .i64 0, .int .i64 0, .int .i64 0, .int .i64 0, .int .i64 0, .int .i64 0] := Blk.set_ h0 1 (.int .i32 r)
  have h2 : Blk _ g 28 #[.int .i64 k, .int .i32 r, .int .u8 p, .int .u8 0, .int .i64 0, .int .i64 0, .int .i64 0, .int .i64 0, .int .i64 0, .int .i64 0, .int .i64 0, .int .i64 0, .int .i64 0] := Blk.set_ h1 2 (.int .u8 p)
  have h3 : Blk _ g 28 #[.int .i64 k, .int .i32 r, .int .u8 p, .int .u8 m, .int .i64 0, .int .i64 0, .int .i64 0, .int .i64 0, .int .i64 0, .int .i64 0, .int .i64 0, .int .i64 0, .int .i64 0] := Blk.set_ h2 3 (.int .u8 m)
  have h4 : Blk _ g 28 #[.int .i64 k, .int .i32 r, .int .u8 p, .int .u8 m, .int .i64 n, .int .i64 0, .int .i64 0, .int .i64 0, .int .i64 0, .int .i64 0, .int .i64 0, .int .i64 0, .int .i64 0] := Blk.set_ h3 4 (.int .i64 n)
  have h5 : Blk _ g 28 #[.int .i64 k, .int .i32 r, .int .u8 p, .int .u8 m, .int .i64 n, .int .i64 n0, .int .i64 0, .int .i64 0, .int .i64 0, .int .i64 0, .int .i64 0, .int .i64 0, .int .i64 0] := Blk.set_ h4 5 (.int .i64 n0)
  have h6 : Blk _ g 28 #[.int .i64 k, .int .i32 r, .int .u8 p, .int .u8 m, .int .i64 n, .int .i64 n0, .int .i64 n1, .int .i64 0, .int .i64 0, .int .i64 0, .int .i64 0, .int .i64 0, .int .i64 0] := Blk.set_ h5 6 (.int .i64 n1)
  have h7 : Blk _ g 28 #[.int .i64 k, .int .i32 r, .int .u8 p, .int .u8 m, .int .i64 n, .int .i64 n0, .int .i64 n1, .int .i64 n2, .int .i64 0, .int .i64 0, .int .i64 0, .int .i64 0, .int .i64 0] := Blk.set_ h6 7 (.int .i64 n2)
  have h8 : Blk _ g 28 #[.int .i64 k, .int .i32 r, .int .u8 p, .int .u8 m, .int .i64 n, .int .i64 n0, .int .i64 n1, .int .i64 n2, .int .i64 n3, .int .i64 0, .int .i64 0, .int .i64 0, .int .i64 0] := Blk.set_ h7 8 (.int .i64 n3)
  have h9 : Blk _ g 28 #[.int .i64 k, .int .i32 r, .int .u8 p, .int .u8 m, .int .i64 n, .int .i64 n0, .int .i64 n1, .int .i64 n2, .int .i64 n3, .int .i64 n4, .int .i64 0, .int .i64 0, .int .i64 0] := Blk.set_ h8 9 (.int .i64 n4)
  have h10 : Blk _ g 28 #[.int .i64 k, .int .i32 r, .int .u8 p, .int .u8 m, .int .i64 n, .int .i64 n0, .int .i64 n1, .int .i64 n2, .int .i64 n3, .int .i64 n4, .int .i64 n5, .int .i64 0, .int .i64 0] := Blk.set_ h9 10 (.int .i64 n5)
  have h11 : Blk _ g 28 #[.int .i64 k, .int .i32 r, .int .u8 p, .int .u8 m, .int .i64 n, .int .i64 n0, .int .i64 n1, .int .i64 n2, .int .i64 n3, .int .i64 n4, .int .i64 n5, .int .i64 n6, .int .i64 0] := Blk.set_ h10 11 (.int .i64 n6)
  have h12 : Blk _ g 28 #[.int .i64 k, .int .i32 r, .int .u8 p, .int .u8 m, .int .i64 n, .int .i64 n0, .int .i64 n1, .int .i64 n2, .int .i64 n3, .int .i64 n4, .int .i64 n5, .int .i64 n6, .int .i64 n7] := Blk.set_ h11 12 (.int .i64 n7)
  exact ⟨h12, (Ext.setCell (p := ⟨g, 12, none⟩) (Ext.setCell (p := ⟨g, 11, none⟩) (Ext.setCell (p := ⟨g, 10, none⟩) (Ext.setCell (p := ⟨g, 9, none⟩) (Ext.setCell (p := ⟨g, 8, none⟩) (Ext.setCell (p := ⟨g, 7, none⟩) (Ext.setCell (p := ⟨g, 6, none⟩) (Ext.setCell (p := ⟨g, 5, none⟩) (Ext.setCell (p := ⟨g, 4, none⟩) (Ext.setCell (p := ⟨g, 3, none⟩) (Ext.setCell (p := ⟨g, 2, none⟩) (Ext.setCell (p := ⟨g, 1, none⟩) (Ext.setCell (p := ⟨g, 0, none⟩) hx hg (.int .i64 k)) hg (.int .i32 r)) hg (.int .u8 p)) hg (.int .u8 m)) hg (.int .i64 n)) hg (.int .i64 n0)) hg (.int .i64 n1)) hg (.int .i64 n2)) hg (.int .i64 n3)) hg (.int .i64 n4)) hg (.int .i64 n5)) hg (.int .i64 n6)) hg (.int .i64 n7))⟩
set_option maxHeartbeats 4000000 in
set_option maxRecDepth 100000 in
theorem act_of (l : List Int) (v : Value) (w : World) (hv : IsInts w v l) (hm : l.length ≤ maxLen) : Calls Tryd.prog 12 #[v] w fun e w' =>
    ∃ n0 n1 n2 n3 n4 n5 n6 n7, e = .returned (.agg (actN 4 109 0 0 ((min l.length 8 : Nat) : Int) n0 n1 n2 n3 n4 n5 n6 n7)) ∧ padP l (min l.length 8) = [n0, n1, n2, n3, n4, n5, n6, n7] ∧ Ext w w' := by
  have hm2 : l.length ≤ 9223372036854775807 := hm
  obtain ⟨A, c, rfl, hc, hA⟩ := hv.form
  generalize hN : l.length = N at hc hv hm2 ⊢
  have H := Lib.hid (And.intro hv hN); clear hv hN hA hm
  have hb0 : Blk ((w.alloc (.cells (actN 0 0 0 0 0 0 0 0 0 0 0 0 0) 28)).alloc (.cells (actN 4 109 0 0 0 0 0 0 0 0 0 0 0) 28)) (w.heap.size + 1) 28 (actL 0 (padP l 0)).toArray := heap_two _ _ _
  have ho0 : Blk ((w.alloc (.cells (actN 0 0 0 0 0 0 0 0 0 0 0 0 0) 28)).alloc (.cells (actN 4 109 0 0 0 0 0 0 0 0 0 0 0) 28)) w.heap.size 28 (actN 0 0 0 0 0 0 0 0 0 0 0 0 0) := Blk.ext (Go.heap_alloc_new w _) ((Ext.refl _).alloc _)
  have hx0 : Ext w ((w.alloc (.cells (actN 0 0 0 0 0 0 0 0 0 0 0 0 0) 28)).alloc (.cells (actN 4 109 0 0 0 0 0 0 0 0 0 0 0) 28)) := ((Ext.refl w).alloc _).alloc _
  have HB := Lib.hid (And.intro hb0 (And.intro ho0 hx0)); clear hb0 ho0 hx0
  go_enter Tryd.func12, Tryd.ntmps12
  go_wp2
  go_loopg [4] (min N 8) (fun k u wr => ∃ i : Nat, u = .int .i64 i ∧ Hid (i + k = min N 8 ∧ Blk wr (w.heap.size + 1) 28 (actL i (padP l i)).toArray ∧ Blk wr w.heap.size 28 (actN 0 0 0 0 0 0 0 0 0 0 0 0 0) ∧ Ext w wr))
  case atStart => exact ⟨0, rfl, Nat.zero_add _, HB.out⟩
  case round =>
    clear HB
    obtain ⟨i, rfl, hin⟩ := hrel
    by_cases hi : i < N
    · have hiN : (i : Int) < (N : Int) := by omega
      by_cases h8 : i < 8
      · have hi8 : (i : Int) < 8 := by omega
        obtain ⟨x, hx⟩ : ∃ x, l[i]? = some x := ⟨l[i]'(by rw [H.out.2]; exact hi), List.getElem?_eq_getElem _⟩
        obtain ⟨hx64, g, off, rfl, hcx⟩ := H.out.1.at hx
        have k0 := hin.out.2.2.2.cell hcx
        have hr := rest112_walk x
        have f5 := hin.out.2.1.frozen (5 + i)
        have f4 := hin.out.2.1.frozen 4
        have q4 : wr.cell? ⟨w.heap.size + 1, 4, none⟩ = some (.int .i64 i) := hin.out.2.1.cell 4
        obtain ⟨y, q5⟩ : ∃ y, wr.cell? ⟨w.heap.size + 1, 5 + i, none⟩ = some y := by
          have h13 : 5 + i < (actL i (padP l i)).toArray.size := by
            have := padP_len l i (by rw [H.out.2]; omega) (by omega)
            unfold actL
            simp only [List.size_toArray, List.length_cons, List.length_map]; omega
          exact ⟨_, (hin.out.2.1.cell (5 + i)).trans (Array.getElem?_eq_getElem h13)⟩
        obtain ⟨R, hR⟩ : ∃ R, rest112 x = R := ⟨_, rfl⟩
        rw [hR] at hr
        have hs1 := hin.out.2.1.set_ (5 + i) (.int .i64 R)
        rw [actL_set, ← hR, padP_next l i x h8 hx] at hs1
        have hs2 := hs1.set_ 4 (.int .i64 ((i + 1 : Nat) : Int))
        rw [actL_n, hR] at hs2
        have ho := ((Only.refl (w.heap.size + 1) wr).setCell (i := 5 + i) (.int .i64 R)).setCell (i := 4) (.int .i64 ((i + 1 : Nat) : Int))
        have hgk : i + 1 + (gk - 1) = min N 8 ∧ gk - 1 < gk := by have := hin.out.1; omega
        have HS := Lib.hid (And.intro hs2 (And.intro (hin.out.2.2.1.only ho (by omega)) (And.intro (Below.trans hin.out.2.2.2 (ho.below (by omega) hin.out.2.2.2.size) : Ext w _) hgk))); clear hs1 hs2 ho hgk hR hcx hx
        go_wp2
        go_roundg (gk - 1)
        case measure => exact HS.out.2.2.2.2
        case rel => exact ⟨i + 1, by go_num, HS.out.2.2.2.1, HS.out.1, HS.out.2.1, HS.out.2.2.1⟩
      · have hi8 : ¬ (i : Int) < 8 := by omega
        have hi2 : i = min N 8 := by have := hin.out.1; omega
        obtain ⟨n0, n1, n2, n3, n4, n5, n6, n7, e8⟩ := eight' _ (padP_len l (min N 8) (by rw [H.out.2]; omega) (by omega))
        have hb := hin.out.2.1
        rw [hi2, e8] at hb
        have hbl : Blk wr (w.heap.size + 1) 28 (actN 4 109 0 0 ((min N 8 : Nat) : Int) n0 n1 n2 n3 n4 n5 n6 n7) := hb
        clear hb
        generalize hM : min N 8 = M at hi2 hbl e8
        subst hi2
        have HM := Lib.hid hM; clear hM
        have HE := Lib.hid (And.intro hbl e8); clear hbl e8
        have k0 : wr.cell? ⟨w.heap.size + 1, 0, none⟩ = some (.int .i64 4) := HE.out.1.cell 0
        have k1 : wr.cell? ⟨w.heap.size + 1, 1, none⟩ = some (.int .i32 109) := HE.out.1.cell 1
        have k2 : wr.cell? ⟨w.heap.size + 1, 2, none⟩ = some (.int .u8 0) := HE.out.1.cell 2
        have k3 : wr.cell? ⟨w.heap.size + 1, 3, none⟩ = some (.int .u8 0) := HE.out.1.cell 3
        have k4 : wr.cell? ⟨w.heap.size + 1, 4, none⟩ = some (.int .i64 i) := HE.out.1.cell 4
        have k5 : wr.cell? ⟨w.heap.size + 1, 5, none⟩ = some (.int .i64 n0) := HE.out.1.cell 5
        have k6 : wr.cell? ⟨w.heap.size + 1, 6, none⟩ = some (.int .i64 n1) := HE.out.1.cell 6
        have k7 : wr.cell? ⟨w.heap.size + 1, 7, none⟩ = some (.int .i64 n2) := HE.out.1.cell 7
        have k8 : wr.cell? ⟨w.heap.size + 1, 8, none⟩ = some (.int .i64 n3) := HE.out.1.cell 8
        have k9 : wr.cell? ⟨w.heap.size + 1, 9, none⟩ = some (.int .i64 n4) := HE.out.1.cell 9
        have k10 : wr.cell? ⟨w.heap.size + 1, 10, none⟩ = some (.int .i64 n5) := HE.out.1.cell 10
        have k11 : wr.cell? ⟨w.heap.size + 1, 11, none⟩ = some (.int .i64 n6) := HE.out.1.cell 11
        have k12 : wr.cell? ⟨w.heap.size + 1, 12, none⟩ = some (.int .i64 n7) := HE.out.1.cell 12
        have o0 : wr.cell? ⟨w.heap.size, 0, none⟩ = some (.int .i64 0) := hin.out.2.2.1.cell 0
        have f0 := hin.out.2.2.1.frozen 0
        have o1 : wr.cell? ⟨w.heap.size, 1, none⟩ = some (.int .i32 0) := hin.out.2.2.1.cell 1
        have f1 := hin.out.2.2.1.frozen 1
        have o2 : wr.cell? ⟨w.heap.size, 2, none⟩ = some (.int .u8 0) := hin.out.2.2.1.cell 2
        have f2 := hin.out.2.2.1.frozen 2
        have o3 : wr.cell? ⟨w.heap.size, 3, none⟩ = some (.int .u8 0) := hin.out.2.2.1.cell 3
        have f3 := hin.out.2.2.1.frozen 3
        have o4 : wr.cell? ⟨w.heap.size, 4, none⟩ = some (.int .i64 0) := hin.out.2.2.1.cell 4
        have f4 := hin.out.2.2.1.frozen 4
        have o5 : wr.cell? ⟨w.heap.size, 5, none⟩ = some (.int .i64 0) := hin.out.2.2.1.cell 5
        have f5 := hin.out.2.2.1.frozen 5
        have o6 : wr.cell? ⟨w.heap.size, 6, none⟩ = some (.int .i64 0) := hin.out.2.2.1.cell 6
        have f6 := hin.out.2.2.1.frozen 6
        have o7 : wr.cell? ⟨w.heap.size, 7, none⟩ = some (.int .i64 0) := hin.out.2.2.1.cell 7
        have f7 := hin.out.2.2.1.frozen 7
        have o8 : wr.cell? ⟨w.heap.size, 8, none⟩ = some (.int .i64 0) := hin.out.2.2.1.cell 8
        have f8 := hin.out.2.2.1.frozen 8
        have o9 : wr.cell? ⟨w.heap.size, 9, none⟩ = some (.int .i64 0) := hin.out.2.2.1.cell 9
        have f9 := hin.out.2.2.1.frozen 9
        have o10 : wr.cell? ⟨w.heap.size, 10, none⟩ = some (.int .i64 0) := hin.out.2.2.1.cell 10
        have f10 := hin.out.2.2.1.frozen 10
        have o11 : wr.cell? ⟨w.heap.size, 11, none⟩ = some (.int .i64 0) := hin.out.2.2.1.cell 11
        have f11 := hin.out.2.2.1.frozen 11
        have o12 : wr.cell? ⟨w.heap.size, 12, none⟩ = some (.int .i64 0) := hin.out.2.2.1.cell 12
        have f12 := hin.out.2.2.1.frozen 12
        go_wp2
        have hout := act_laid hin.out.2.2.1 hin.out.2.2.2 (Nat.le_refl _) 4 109 0 0 i n0 n1 n2 n3 n4 n5 n6 n7
        exact ret_act' rfl rfl rfl hout.1 rfl ⟨n0, n1, n2, n3, n4, n5, n6, n7, by rw [HM.out], by rw [HM.out]; exact HE.out.2, hout.2⟩
    · have hiN : ¬ (i : Int) < (N : Int) := by omega
      have hi2 : i = min N 8 := by have := hin.out.1; omega
      obtain ⟨n0, n1, n2, n3, n4, n5, n6, n7, e8⟩ := eight' _ (padP_len l (min N 8) (by rw [H.out.2]; omega) (by omega))
      have hb := hin.out.2.1
      rw [hi2, e8] at hb
      have hbl : Blk wr (w.heap.size + 1) 28 (actN 4 109 0 0 ((min N 8 : Nat) : Int) n0 n1 n2 n3 n4 n5 n6 n7) := hb
      clear hb
      generalize hM : min N 8 = M at hi2 hbl e8
      subst hi2
      have HM := Lib.hid hM; clear hM
      have HE := Lib.hid (And.intro hbl e8); clear hbl e8
      have k0 : wr.cell? ⟨w.heap.size + 1, 0, none⟩ = some (.int .i64 4) := HE.out.1.cell 0
      have k1 : wr.cell? ⟨w.heap.size + 1, 1, none⟩ = some (.int .i32 109) := HE.out.1.cell 1
      have k2 : wr.cell? ⟨w.heap.size + 1, 2, none⟩ = some (.int .u8 0) := HE.out.1.cell 2
      have k3 : wr.cell? ⟨w.heap.size + 1, 3, none⟩ = some (.int .u8 0) := HE.out.1.cell 3
      have k4 : wr.cell? ⟨w.heap.size + 1, 4, none⟩ = some (.int .i64 i) := HE.out.1.cell 4
      have k5 : wr.cell? ⟨w.heap.size + 1, 5, none⟩ = some (.int .i64 n0) := HE.out.1.cell 5
      have k6 : wr.cell? ⟨w.heap.size + 1, 6, none⟩ = some (.int .i64 n1) := HE.out.1.cell 6
      have k7 : wr.cell? ⟨w.heap.size + 1, 7, none⟩ = some (.int .i64 n2) := HE.out.1.cell 7
      have k8 : wr.cell? ⟨w.heap.size + 1, 8, none⟩ = some (.int .i64 n3) := HE.out.1.cell 8
      have k9 : wr.cell? ⟨w.heap.size + 1, 9, none⟩ = some (.int .i64 n4) := HE.out.1.cell 9
      have k10 : wr.cell? ⟨w.heap.size + 1, 10, none⟩ = some (.int .i64 n5) := HE.out.1.cell 10
      have k11 : wr.cell? ⟨w.heap.size + 1, 11, none⟩ = some (.int .i64 n6) := HE.out.1.cell 11
      have k12 : wr.cell? ⟨w.heap.size + 1, 12, none⟩ = some (.int .i64 n7) := HE.out.1.cell 12
      have o0 : wr.cell? ⟨w.heap.size, 0, none⟩ = some (.int .i64 0) := hin.out.2.2.1.cell 0
      have f0 := hin.out.2.2.1.frozen 0
      have o1 : wr.cell? ⟨w.heap.size, 1, none⟩ = some (.int .i32 0) := hin.out.2.2.1.cell 1
      have f1 := hin.out.2.2.1.frozen 1
      have o2 : wr.cell? ⟨w.heap.size, 2, none⟩ = some (.int .u8 0) := hin.out.2.2.1.cell 2
      have f2 := hin.out.2.2.1.frozen 2
      have o3 : wr.cell? ⟨w.heap.size, 3, none⟩ = some (.int .u8 0) := hin.out.2.2.1.cell 3
      have f3 := hin.out.2.2.1.frozen 3
      have o4 : wr.cell? ⟨w.heap.size, 4, none⟩ = some (.int .i64 0) := hin.out.2.2.1.cell 4
      have f4 := hin.out.2.2.1.frozen 4
      have o5 : wr.cell? ⟨w.heap.size, 5, none⟩ = some (.int .i64 0) := hin.out.2.2.1.cell 5
      have f5 := hin.out.2.2.1.frozen 5
      have o6 : wr.cell? ⟨w.heap.size, 6, none⟩ = some (.int .i64 0) := hin.out.2.2.1.cell 6
      have f6 := hin.out.2.2.1.frozen 6
      have o7 : wr.cell? ⟨w.heap.size, 7, none⟩ = some (.int .i64 0) := hin.out.2.2.1.cell 7
      have f7 := hin.out.2.2.1.frozen 7
      have o8 : wr.cell? ⟨w.heap.size, 8, none⟩ = some (.int .i64 0) := hin.out.2.2.1.cell 8
      have f8 := hin.out.2.2.1.frozen 8
      have o9 : wr.cell? ⟨w.heap.size, 9, none⟩ = some (.int .i64 0) := hin.out.2.2.1.cell 9
      have f9 := hin.out.2.2.1.frozen 9
      have o10 : wr.cell? ⟨w.heap.size, 10, none⟩ = some (.int .i64 0) := hin.out.2.2.1.cell 10
      have f10 := hin.out.2.2.1.frozen 10
      have o11 : wr.cell? ⟨w.heap.size, 11, none⟩ = some (.int .i64 0) := hin.out.2.2.1.cell 11
      have f11 := hin.out.2.2.1.frozen 11
      have o12 : wr.cell? ⟨w.heap.size, 12, none⟩ = some (.int .i64 0) := hin.out.2.2.1.cell 12
      have f12 := hin.out.2.2.1.frozen 12
      go_wp2
      have hout := act_laid hin.out.2.2.1 hin.out.2.2.2 (Nat.le_refl _) 4 109 0 0 i n0 n1 n2 n3 n4 n5 n6 n7
      exact ret_act' rfl rfl rfl hout.1 rfl ⟨n0, n1, n2, n3, n4, n5, n6, n7, by rw [HM.out], by rw [HM.out]; exact HE.out.2, hout.2⟩
end Go.Proofs.YtgnknliaeoblhabDoor
