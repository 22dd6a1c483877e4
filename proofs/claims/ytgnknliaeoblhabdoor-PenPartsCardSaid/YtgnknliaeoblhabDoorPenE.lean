/- What an act makes of a pen: pen.taker, pen.Apply. -/
import Derived.Test.YtgnknliaeoblhabDoorPenD
namespace Go.Proofs.YtgnknliaeoblhabDoor
open Go Go.RowKit

abbrev actN (k r p m n n0 n1 n2 n3 n4 n5 n6 n7 : Int) : Array Value := #[.int .i64 k, .int .i32 r, .int .u8 p, .int .u8 m, .int .i64 n, .int .i64 n0, .int .i64 n1, .int .i64 n2, .int .i64 n3, .int .i64 n4, .int .i64 n5, .int .i64 n6, .int .i64 n7]
theorem heap_three (w : World) (o1 o2 o3 : Obj) : (((w.alloc o1).alloc o2).alloc o3).heap[w.heap.size + 2]? = some o3 := by
  have := Go.heap_alloc_new ((w.alloc o1).alloc o2) o3
  simp only [World.size_alloc] at this
  exact this
set_option maxHeartbeats 4000000 in
set_option maxRecDepth 100000 in
theorem taker_of (k r p m n n0 n1 n2 n3 n4 n5 n6 n7 : Int) (w : World) : Calls Tryd.prog 17 #[.agg (actN k r p m n n0 n1 n2 n3 n4 n5 n6 n7)] w fun e w' =>
    ∃ B, e = .returned (takeV B) ∧ TakeAt w' B (numsP n [n0, n1, n2, n3, n4, n5, n6, n7]) ∧ B = w.heap.size + 2 ∧ Ext w w' := by
  have hmf : ∀ (fn : Fn) (first cap : Array Value) (w : World), (Instr.makeFunc fn first cap).run Tryd.prog w = .ok (.func fn first cap) w := fun _ _ _ _ => rfl
  by_cases hn : 0 < n
  · obtain ⟨K, hK⟩ : ∃ K : Nat, min n 8 = (K : Int) := ⟨(min n 8).toNat, by omega⟩
    have hK1 : 1 ≤ K := by omega
    have hK8 : K ≤ 8 := by omega
    have hnum : numsP n [n0, n1, n2, n3, n4, n5, n6, n7] = [n0, n1, n2, n3, n4, n5, n6, n7].take K := by
      unfold numsP
      rw [if_pos hn, hK]; rfl
    rw [hnum]
    have HN := Lib.hid hnum; clear hnum
    have hKI : (K : Int) ≤ 8 := by omega
    go_enter Tryd.func17, Tryd.ntmps17
    go_wp2
    go_ret
    have hb : Blk (((w.alloc (.cells (actN k r p m n n0 n1 n2 n3 n4 n5 n6 n7) 28)).alloc (.cells #[.int .i64 0] 3)).alloc (.cells #[.slice (some ⟨w.heap.size, 5, none⟩) K 8] 40)) w.heap.size 28 (actN k r p m n n0 n1 n2 n3 n4 n5 n6 n7) := Blk.ext (Go.heap_alloc_new w _) (((Ext.refl _).alloc _).alloc _)
    have hl : ([n0, n1, n2, n3, n4, n5, n6, n7].take K).length = K := by rw [List.length_take]; simp; omega
    refine ⟨_, rfl, ⟨w.heap.size, 5, 8, by rw [hl]; exact heap_three _ _ _ _, ⟨by omega, by omega⟩, by rw [hl]; exact hK8, fun i x hi => ?_⟩, rfl, (((Ext.refl w).alloc _).alloc _).alloc _⟩
    have hi8 : i < K := by have := (List.getElem?_eq_some_iff.1 hi).1; rw [hl] at this; exact this
    rw [List.getElem?_take_of_lt hi8] at hi
    have h8 : i = 0 ∨ i = 1 ∨ i = 2 ∨ i = 3 ∨ i = 4 ∨ i = 5 ∨ i = 6 ∨ i = 7 := by omega
    rcases h8 with rfl | rfl | rfl | rfl | rfl | rfl | rfl | rfl
    all_goals
      injection hi with hi
      subst hi
      exact hb.cell _
  · have hnum : numsP n [n0, n1, n2, n3, n4, n5, n6, n7] = [0] := if_neg hn
    rw [hnum]
    clear hnum
    have hn' : n ≤ 0 := by omega
    go_enter Tryd.func17, Tryd.ntmps17
    go_wp2
    go_ret
    have hb : Blk (((w.alloc (.cells (actN k r p m n n0 n1 n2 n3 n4 n5 n6 n7) 28)).alloc (.cells #[.int .i64 0] 3)).alloc (.cells #[.slice (some ⟨w.heap.size + 1, 0, none⟩) 1 1] 40)) (w.heap.size + 1) 3 #[.int .i64 0] := Blk.ext (heap_two _ _ _) ((Ext.refl _).alloc _)
    refine ⟨_, rfl, ⟨w.heap.size + 1, 0, 1, heap_three _ _ _ _, ⟨by omega, by omega⟩, Nat.le_refl _, fun i x hi => ?_⟩, rfl, (((Ext.refl w).alloc _).alloc _).alloc _⟩
    cases i with
    | zero => injection hi with hi; subst hi; exact hb.cell 0
    | succ i => cases hi
abbrev celA (c : Cel) : Array Value := #[.int .i32 c.r, .int .u8 c.f, .int .u8 c.b, .int .u8 c.a]
abbrev zeroA : Array Value := #[.int .i32 0, .int .u8 0, .int .u8 0, .int .u8 0]
theorem fold_out (w : World) (xs ys zs : Array Value) : Blk (((w.alloc (.cells xs 23)).alloc (.cells ys 28)).alloc (.cells zs 23)) (w.heap.size + 2) 23 zs ∧ Ext w (((w.alloc (.cells xs 23)).alloc (.cells ys 28)).alloc (.cells zs 23)) :=
  ⟨heap_three _ _ _ _, (((Ext.refl w).alloc _).alloc _).alloc _⟩
set_option maxHeartbeats 4000000 in
set_option maxRecDepth 100000 in
theorem Apply_not (c : Cel) (k r p m n n0 n1 n2 n3 n4 n5 n6 n7 : Int) (w : World) (h : k ≠ 4 ∨ r ≠ 109 ∨ p ≠ 0 ∨ m ≠ 0) : Calls Tryd.prog 11 #[c.val, .agg (actN k r p m n n0 n1 n2 n3 n4 n5 n6 n7)] w fun e w' => e = .returned c.val ∧ Ext w w' := by
  obtain ⟨cr, cf, cb, ca⟩ := c
  dsimp only [Cel.val]
  rcases (show k ≠ 4 ∨ (k = 4 ∧ r ≠ 109) ∨ (k = 4 ∧ r = 109 ∧ p ≠ 0) ∨ (k = 4 ∧ r = 109 ∧ p = 0 ∧ m ≠ 0) by omega) with h1 | ⟨rfl, h1⟩ | ⟨rfl, rfl, h1⟩ | ⟨rfl, rfl, rfl, h1⟩
  · have e1 : (k != 4) = true := by simpa using h1
    clear h h1
    go_enter Tryd.func11, Tryd.ntmps11
    go_wp2
    exact ret_cell1 (c := ⟨cr, cf, cb, ca⟩) rfl rfl rfl (fold_out _ _ _ _).1 ⟨rfl, (fold_out _ _ _ _).2⟩
  · have e1 : (r != 109) = true := by simpa using h1
    clear h h1
    go_enter Tryd.func11, Tryd.ntmps11
    go_wp2
    exact ret_cell1 (c := ⟨cr, cf, cb, ca⟩) rfl rfl rfl (fold_out _ _ _ _).1 ⟨rfl, (fold_out _ _ _ _).2⟩
  · have e1 : (p != 0) = true := by simpa using h1
    clear h h1
    go_enter Tryd.func11, Tryd.ntmps11
    go_wp2
    exact ret_cell1 (c := ⟨cr, cf, cb, ca⟩) rfl rfl rfl (fold_out _ _ _ _).1 ⟨rfl, (fold_out _ _ _ _).2⟩
  · have e1 : (m != 0) = true := by simpa using h1
    clear h h1
    go_enter Tryd.func11, Tryd.ntmps11
    go_wp2
    exact ret_cell1 (c := ⟨cr, cf, cb, ca⟩) rfl rfl rfl (fold_out _ _ _ _).1 ⟨rfl, (fold_out _ _ _ _).2⟩
/-- A pen that is being drawn with: its box, what is left, and where it is handed back. -/
structure PenSt (w wr : World) (B : Nat) (l : List Int) (c : Cel) : Prop where
  take : TakeAt wr B l
  pen : Blk wr w.heap.size 23 (celA c)
  out : Blk wr (w.heap.size + 2) 23 zeroA
  ext : Ext w wr
  far : B = w.heap.size + 5
theorem PenSt.took {w wr W' : World} {B : Nat} {l m : List Int} {c : Cel} (h : PenSt w wr B l c) (ht : TakeAt W' B m) (ho : Only B wr W') : PenSt w W' B m c :=
  ⟨ht, h.pen.only ho (by have := h.far; omega), h.out.only ho (by have := h.far; omega), Below.trans h.ext (ho.below (by have := h.far; omega) h.ext.size), h.far⟩
theorem PenSt.store {w wr : World} {B : Nat} {l : List Int} {c : Cel} (h : PenSt w wr B l c) (r f b a : Int) :
    PenSt w ((((wr.setCell ⟨w.heap.size, 0, none⟩ (.int .i32 r)).setCell ⟨w.heap.size, 1, none⟩ (.int .u8 f)).setCell ⟨w.heap.size, 2, none⟩ (.int .u8 b)).setCell ⟨w.heap.size, 3, none⟩ (.int .u8 a)) B l ⟨r, f, b, a⟩ := by
  have ho := ((((Only.refl w.heap.size wr).setCell (i := 0) (.int .i32 r)).setCell (i := 1) (.int .u8 f)).setCell (i := 2) (.int .u8 b)).setCell (i := 3) (.int .u8 a)
  exact ⟨h.take.only ho (.inr (by have := h.far; omega)), (((h.pen.set_ 0 (.int .i32 r)).set_ 1 (.int .u8 f)).set_ 2 (.int .u8 b)).set_ 3 (.int .u8 a), h.out.only ho (by omega), Below.trans h.ext (ho.below (Nat.le_refl _) h.ext.size), h.far⟩
theorem PenSt.told {w wr : World} {B : Nat} {l : List Int} {c : Cel} (h : PenSt w wr B l c) (r f b a : Int) :
    Blk ((((wr.setCell ⟨w.heap.size + 2, 0, none⟩ (.int .i32 r)).setCell ⟨w.heap.size + 2, 1, none⟩ (.int .u8 f)).setCell ⟨w.heap.size + 2, 2, none⟩ (.int .u8 b)).setCell ⟨w.heap.size + 2, 3, none⟩ (.int .u8 a)) (w.heap.size + 2) 23 #[.int .i32 r, .int .u8 f, .int .u8 b, .int .u8 a] ∧
    Ext w ((((wr.setCell ⟨w.heap.size + 2, 0, none⟩ (.int .i32 r)).setCell ⟨w.heap.size + 2, 1, none⟩ (.int .u8 f)).setCell ⟨w.heap.size + 2, 2, none⟩ (.int .u8 b)).setCell ⟨w.heap.size + 2, 3, none⟩ (.int .u8 a)) := by
  have ho := ((((Only.refl (w.heap.size + 2) wr).setCell (i := 0) (.int .i32 r)).setCell (i := 1) (.int .u8 f)).setCell (i := 2) (.int .u8 b)).setCell (i := 3) (.int .u8 a)
  exact ⟨(((h.out.set_ 0 (.int .i32 r)).set_ 1 (.int .u8 f)).set_ 2 (.int .u8 b)).set_ 3 (.int .u8 a), Below.trans h.ext (ho.below (Nat.le_add_right _ _) h.ext.size)⟩
theorem numsP_pos (n : Int) (n0 n1 n2 n3 n4 n5 n6 n7 : Int) : ∃ x t, numsP n [n0, n1, n2, n3, n4, n5, n6, n7] = x :: t := by
  unfold numsP
  split
  · obtain ⟨K, hK⟩ : ∃ K : Nat, (min n 8).toNat = K + 1 := ⟨(min n 8).toNat - 1, by omega⟩
    rw [hK]
    exact ⟨_, _, rfl⟩
  · exact ⟨_, _, rfl⟩
set_option maxHeartbeats 4000000 in
set_option maxRecDepth 100000 in
theorem Apply_set (c : Cel) (n n0 n1 n2 n3 n4 n5 n6 n7 : Int) (w : World) (hW : Ways w) : Calls Tryd.prog 11 #[c.val, .agg (actN 4 109 0 0 n n0 n1 n2 n3 n4 n5 n6 n7)] w fun e w' => e = .returned (runP 8 c (numsP n [n0, n1, n2, n3, n4, n5, n6, n7])).val ∧ Ext w w' := by
  obtain ⟨x, t, hL⟩ := numsP_pos n n0 n1 n2 n3 n4 n5 n6 n7
  have hl8 := numsP_len n [n0, n1, n2, n3, n4, n5, n6, n7]
  have htk := fun V => taker_of 4 109 0 0 n n0 n1 n2 n3 n4 n5 n6 n7 V
  rw [hL] at htk hl8 ⊢
  obtain ⟨R, hR⟩ : ∃ R, runP 8 c (x :: t) = R := ⟨_, rfl⟩
  rw [hR]
  have hR8 : t.length + 1 ≤ 8 := hl8
  have H := Lib.hid (And.intro hW (And.intro htk (And.intro hR8 hR))); clear hW htk hL hl8 hR hR8
  obtain ⟨cr, cf, cb, ca⟩ := c
  dsimp only [Cel.val]
  go_enter Tryd.func11, Tryd.ntmps11
  go_wp2_with fail
  refine (H.out.2.1 _).mono ?_
  rintro e w1 ⟨B, rfl, ht, hB, hx⟩
  have hst : PenSt w w1 B (x :: t) ⟨cr, cf, cb, ca⟩ := ⟨ht, Blk.ext (Blk.ext (Go.heap_alloc_new w _) (((Ext.refl _).alloc _).alloc _)) hx, Blk.ext (heap_three _ _ _ _) hx, ((((Ext.refl w).alloc _).alloc _).alloc _).trans hx, by rw [hB]; simp⟩
  have H1 := Lib.hid hst; clear hst ht hB hx
  go_wp2_with fail
  refine (take_of B _ _ H1.out.take).mono ?_
  rintro e w2 ⟨rfl, ht, ho⟩
  have H2 := Lib.hid (H1.out.took ht ho); clear ht ho
  go_wp2_with fail
  go_loopg [6, 7] 8 (fun k u v wr => ∃ (y : Int) (ok : Bool) (l : List Int) (c : Cel), u = .int .i64 y ∧ v = .bool ok ∧ Hid ((ok = true ∧ l.length + 1 ≤ k ∧ runP k c (y :: l) = R ∨ ok = false ∧ c = R) ∧ PenSt w wr B l c))
  case atStart => exact ⟨x, true, t, _, rfl, rfl, .inl ⟨rfl, H.out.2.2.1, H.out.2.2.2⟩, H2.out⟩
  case round =>
    clear H1 H2
    obtain ⟨y, ok, l, c, rfl, rfl, hin⟩ := hrel
    cases ok with
    | true =>
      have h3 : l.length + 1 ≤ gk ∧ runP gk c (y :: l) = R := by rcases hin.out.1 with h | h; exact h.2; cases h.1
      obtain ⟨k, rfl⟩ : ∃ k, gk = k + 1 := ⟨gk - 1, by omega⟩
      have hll := obeyedP_len c y l
      have hob := penObeyed_of c y B l
      have hrun : runP k (obeyedP c y l).1 (obeyedP c y l).2 = R := h3.2
      generalize obeyedP c y l = q at hll hob hrun
      obtain ⟨⟨qr, qf, qb, qa⟩, m⟩ := q
      obtain ⟨r, f, b, a⟩ := c
      dsimp only [Cel.val] at hob
      have HH := Lib.hid (And.intro (show m.length ≤ k by simp only at hll; omega) (And.intro hrun hob)); clear h3 hll hob hrun
      have k0 : _ = some (Value.int .i32 r) := hin.out.2.pen.cell 0
      have k1 : _ = some (Value.int .u8 f) := hin.out.2.pen.cell 1
      have k2 : _ = some (Value.int .u8 b) := hin.out.2.pen.cell 2
      have k3 : _ = some (Value.int .u8 a) := hin.out.2.pen.cell 3
      go_wp2_with fail
      refine (HH.out.2.2 _ hin.out.2.take (H.out.1.ext hin.out.2.ext)).mono ?_
      rintro e w3 ⟨rfl, ht, ho⟩
      have H3 := Lib.hid (hin.out.2.took ht ho); clear ht ho k0 k1 k2 k3
      have f0 := H3.out.pen.frozen 0
      have f1 := H3.out.pen.frozen 1
      have f2 := H3.out.pen.frozen 2
      have f3 := H3.out.pen.frozen 3
      have k0 : _ = some (Value.int .i32 r) := H3.out.pen.cell 0
      have k1 : _ = some (Value.int .u8 f) := H3.out.pen.cell 1
      have k2 : _ = some (Value.int .u8 b) := H3.out.pen.cell 2
      have k3 : _ = some (Value.int .u8 a) := H3.out.pen.cell 3
      have H4 := Lib.hid (H3.out.store qr qf qb qa)
      go_wp2_with fail
      refine (take_of B _ _ H4.out.take).mono ?_
      rintro e w5 ⟨rfl, ht, ho⟩
      have H5 := Lib.hid (H4.out.took ht ho); clear ht ho k0 k1 k2 k3 f0 f1 f2 f3
      cases m with
      | nil =>
        go_wp2
        go_roundg k
        case measure => omega
        case rel => exact ⟨0, false, [], _, rfl, rfl, .inr ⟨rfl, by rw [← HH.out.2.1, runP_nil]⟩, H5.out⟩
      | cons z m =>
        go_wp2
        go_roundg k
        case measure => omega
        case rel => exact ⟨z, true, m, _, rfl, rfl, .inl ⟨rfl, HH.out.1, HH.out.2.1⟩, H5.out⟩
    | false =>
      have h3 : c = R := by rcases hin.out.1 with h | h; cases h.1; exact h.2
      subst h3
      obtain ⟨r, f, b, a⟩ := c
      have k0 : _ = some (Value.int .i32 r) := hin.out.2.pen.cell 0
      have k1 : _ = some (Value.int .u8 f) := hin.out.2.pen.cell 1
      have k2 : _ = some (Value.int .u8 b) := hin.out.2.pen.cell 2
      have k3 : _ = some (Value.int .u8 a) := hin.out.2.pen.cell 3
      have o0 : _ = some (Value.int .i32 0) := hin.out.2.out.cell 0
      have o1 : _ = some (Value.int .u8 0) := hin.out.2.out.cell 1
      have o2 : _ = some (Value.int .u8 0) := hin.out.2.out.cell 2
      have o3 : _ = some (Value.int .u8 0) := hin.out.2.out.cell 3
      have f0 := hin.out.2.out.frozen 0
      have f1 := hin.out.2.out.frozen 1
      have f2 := hin.out.2.out.frozen 2
      have f3 := hin.out.2.out.frozen 3
      go_wp2
      exact ret_cell1 (c := ⟨r, f, b, a⟩) rfl rfl rfl (hin.out.2.told r f b a).1 ⟨rfl, (hin.out.2.told r f b a).2⟩
theorem Apply_of (c : Cel) (k r p m n n0 n1 n2 n3 n4 n5 n6 n7 : Int) (w : World) (hW : Ways w) : Calls Tryd.prog 11 #[c.val, .agg (actN k r p m n n0 n1 n2 n3 n4 n5 n6 n7)] w fun e w' => e = .returned (penP c k r p m n [n0, n1, n2, n3, n4, n5, n6, n7]).val ∧ Ext w w' := by
  unfold penP
  by_cases h : k ≠ 4 ∨ r ≠ 109 ∨ p ≠ 0 ∨ m ≠ 0
  · rw [if_pos h]; exact Apply_not c k r p m n n0 n1 n2 n3 n4 n5 n6 n7 w h
  · rw [if_neg h]
    obtain ⟨rfl, rfl, rfl, rfl⟩ : k = 4 ∧ r = 109 ∧ p = 0 ∧ m = 0 := by omega
    exact Apply_set c n n0 n1 n2 n3 n4 n5 n6 n7 w hW
end Go.Proofs.YtgnknliaeoblhabDoor
