/- What an act makes of a pen: pen.taker, pen.Apply. · Words of no program: a number, folded; its bytes; what the beginning of a row of bytes reads as. · Bytes are put, one number behind the other: nums.put, nums.Put. · A row of numbers is put: nums.Put, nums.PutText. · A row of numbers, cut to its first ones. · A number's lowest bits. -/
import Derived.Test.YtgnknliaeoblhabDoorV1
import Derived.Test.YtgnknliaeoblhabDoorV3
import Derived.WalkKit
import Derived.Test.YtgnknliaeoblhabDoorProg
import Derived.IntWalk
import Derived.KernelRfl
import Derived.Deep.LoopGhost
import Derived.Laws.BitsAll
import Derived.Laws.BitsAllLaws
import Derived.Maps.AppendAt
import Derived.Deep.AppendLies
import Derived.RegionTactic
import Derived.OwnWalk
import Derived.Laws.IdiomStrings
import Derived.Laws.BytesArg
import Derived.Lib.Builder
import Derived.Laws.Bits128
namespace Go.Proofs.YtgnknliaeoblhabDoor
open Go Go.RowKit

abbrev actN (k r p m n n0 n1 n2 n3 n4 n5 n6 n7 : Int) : Array Value := #[.int .i64 k, .int .i32 r, .int .u8 p, .int .u8 m, .int .i64 n, .int .i64 n0, .int .i64 n1, .int .i64 n2, .int .i64 n3, .int .i64 n4, .int .i64 n5, .int .i64 n6, .int .i64 n7]
theorem heap_three (w : World) (o1 o2 o3 : Obj) : (((w.alloc o1).alloc o2).alloc o3).heap[w.heap.size + 2]? = some o3 := by
  have := Go.heap_alloc_new ((w.alloc o1).alloc o2) o3
  simp only [World.size_alloc] at this
  exact this
set_option maxHeartbeats 4000000 in
set_option maxRecDepth 100000 in
theorem taker_of (k r p m n n0 n1 n2 n3 n4 n5 n6 n7 : Int) (w : World) : Calls Tryd.prog 17 #[.agg (actN k r p m n n0 n1 n2 n3 n4 n5 n6 n7)] w fun e w' =>
    ∃ B, e = .returned (takeV B) ∧ TakeAt w' B (numsP n [n0, n1, n2, n3, n4, n5, n6, n7]) ∧ B = w.heap.size + 2 ∧ Ext w w' := by
  have hmf : ∀ (fn : Fn) (first cap : Array Value) (w : World), (Instr.makeFunc fn first cap).run Tryd.prog w = .ok (.func fn first cap) w := fun _ _ _ _ => rfl
  by_cases hn : 0 < n
  · obtain ⟨K, hK⟩ : ∃ K : Nat, min n 8 = (K : Int) := ⟨(min n 8).toNat, by omega⟩
    have hK1 : 1 ≤ K := by omega
    have hK8 : K ≤ 8 := by omega
    have hnum : numsP n [n0, n1, n2, n3, n4, n5, n6, n7] = [n0, n1, n2, n3, n4, n5, n6, n7].take K := by
      unfold numsP
      rw [if_pos hn, hK]; rfl
    rw [hnum]
    have HN := Lib.hid hnum; clear hnum
    have hKI : (K : Int) ≤ 8 := by omega
    go_enter Tryd.func17, Tryd.ntmps17
    go_wp2
    go_ret
    have hb : Blk (((w.alloc (.cells (actN k r p m n n0 n1 n2 n3 n4 n5 n6 n7) 28)).alloc (.cells #[.int .i64 0] 3)).alloc (.cells #[.slice (some ⟨w.heap.size, 5, none⟩) K 8] 40)) w.heap.size 28 (actN k r p m n n0 n1 n2 n3 n4 n5 n6 n7) := Blk.ext (Go.heap_alloc_new w _) (((Ext.refl _).alloc _).alloc _)
    have hl : ([n0, n1, n2, n3, n4, n5, n6, n7].take K).length = K := by rw [List.length_take]; simp; omega
    refine ⟨_, rfl, ⟨w.heap.size, 5, 8, by rw [hl]; exact heap_three _ _ _ _, ⟨by omega, by omega⟩, by rw [hl]; exact hK8, fun i x hi => ?_⟩, rfl, (((Ext.refl w).alloc _).alloc _).alloc _⟩
    have hi8 : i < K := by have := (List.getElem?_eq_some_iff.1 hi).1; rw [hl] at this; exact this
    rw [List.getElem?_take_of_lt hi8] at hi
    have h8 : i = 0 ∨ i = 1 ∨ i = 2 ∨ i = 3 ∨ i = 4 ∨ i = 5 ∨ i = 6 ∨ i = 7 := by omega
    rcases h8 with rfl | rfl | rfl | rfl | rfl | rfl | rfl | rfl
    all_goals
      injection hi with hi
      subst hi
      exact hb.cell _
  · have hnum : numsP n [n0, n1, n2, n3, n4, n5, n6, n7] = [0] := if_neg hn
    rw [hnum]
    clear hnum
    have hn' : n ≤ 0 := by omega
    go_enter Tryd.func17, Tryd.ntmps17
    go_wp2
    go_ret
    have hb : Blk (((w.alloc (.cells (actN k r p m n n0 n1 n2 n3 n4 n5 n6 n7) 28)).alloc (.cells #[.int .i64 0] 3)).alloc (.cells #[.slice (some ⟨w.heap.size + 1, 0, none⟩) 1 1] 40)) (w.heap.size + 1) 3 #[.int .i64 0] := Blk.ext (heap_two _ _ _) ((Ext.refl _).alloc _)
    refine ⟨_, rfl, ⟨w.heap.size + 1, 0, 1, heap_three _ _ _ _, ⟨by omega, by omega⟩, Nat.le_refl _, fun i x hi => ?_⟩, rfl, (((Ext.refl w).alloc _).alloc _).alloc _⟩
    cases i with
    | zero => injection hi with hi; subst hi; exact hb.cell 0
    | succ i => cases hi
abbrev celA (c : Cel) : Array Value := #[.int .i32 c.r, .int .u8 c.f, .int .u8 c.b, .int .u8 c.a]
abbrev zeroA : Array Value := #[.int .i32 0, .int .u8 0, .int .u8 0, .int .u8 0]
theorem fold_out (w : World) (xs ys zs : Array Value) : Blk (((w.alloc (.cells xs 23)).alloc (.cells ys 28)).alloc (.cells zs 23)) (w.heap.size + 2) 23 zs ∧ Ext w (((w.alloc (.cells xs 23)).alloc (.cells ys 28)).alloc (.cells zs 23)) :=
  ⟨heap_three _ _ _ _, (((Ext.refl w).alloc _).alloc _).alloc _⟩
set_option maxHeartbeats 4000000 in
set_option maxRecDepth 100000 in
theorem Apply_not (c : Cel) (k r p m n n0 n1 n2 n3 n4 n5 n6 n7 : Int) (w : World) (h : k ≠ 4 ∨ r ≠ 109 ∨ p ≠ 0 ∨ m ≠ 0) : Calls Tryd.prog 11 #[c.val, .agg (actN k r p m n n0 n1 n2 n3 n4 n5 n6 n7)] w fun e w' => e = .returned c.val ∧ Ext w w' := by
  obtain ⟨cr, cf, cb, ca⟩ := c
  dsimp only [Cel.val]
  rcases (show k ≠ 4 ∨ (k = 4 ∧ r ≠ 109) ∨ (k = 4 ∧ r = 109 ∧ p ≠ 0) ∨ (k = 4 ∧ r = 109 ∧ p = 0 ∧ m ≠ 0) by omega) with h1 | ⟨rfl, h1⟩ | ⟨rfl, rfl, h1⟩ | ⟨rfl, rfl, rfl, h1⟩
  · have e1 : (k != 4) = true := by simpa using h1
    clear h h1
    go_enter Tryd.func11, Tryd.ntmps11
    go_wp2
    exact ret_cell1 (c := ⟨cr, cf, cb, ca⟩) rfl rfl rfl (fold_out _ _ _ _).1 ⟨rfl, (fold_out _ _ _ _).2⟩
  · have e1 : (r != 109) = true := by simpa using h1
    clear h h1
    go_enter Tryd.func11, Tryd.ntmps11
    go_wp2
    exact ret_cell1 (c := ⟨cr, cf, cb, ca⟩) rfl rfl rfl (fold_out _ _ _ _).1 ⟨rfl, (fold_out _ _ _ _).2⟩
  · have e1 : (p != 0) = true := by simpa using h1
    clear h h1
    go_enter Tryd.func11, Tryd.ntmps11
    go_wp2
    exact ret_cell1 (c := ⟨cr, cf, cb, ca⟩) rfl rfl rfl (fold_out _ _ _ _).1 ⟨rfl, (fold_out _ _ _ _).2⟩
  · have e1 : (m != 0) = true := by simpa using h1
    clear h h1
    go_enter Tryd.func11, Tryd.ntmps11
    go_wp2
    exact ret_cell1 (c := ⟨cr, cf, cb, ca⟩) rfl rfl rfl (fold_out _ _ _ _).1 ⟨rfl, (fold_out _ _ _ _).2⟩
/-- A pen that is being drawn with: its box, what is left, and where it is handed back. -/
structure PenSt (w wr : World) (B : Nat) (l : List Int) (c : Cel) : Prop where
  take : TakeAt wr B l
  pen : Blk wr w.heap.size 23 (celA c)
  out : Blk wr (w.heap.size + 2) 23 zeroA
  ext : Ext w wr
  far : B = w.heap.size + 5
theorem PenSt.took {w wr W' : World} {B : Nat} {l m : List Int} {c : Cel} (h : PenSt w wr B l c) (ht : TakeAt W' B m) (ho : Only B wr W') : PenSt w W' B m c :=
  ⟨ht, h.pen.only ho (by have := h.far; omega), h.out.only ho (by have := h.far; omega), Below.trans h.ext (ho.below (by have := h.far; omega) h.ext.size), h.far⟩
theorem PenSt.store {w wr : World} {B : Nat} {l : List Int} {c : Cel} (h : PenSt w wr B l c) (r f b a : Int) :
    PenSt w ((((wr.setCell ⟨w.heap.size, 0, none⟩ (.int .i32 r)).setCell ⟨w.heap.size, 1, none⟩ (.int .u8 f)).setCell ⟨w.heap.size, 2, none⟩ (.int .u8 b)).setCell ⟨w.heap.size, 3, none⟩ (.int .u8 a)) B l ⟨r, f, b, a⟩ := by
  have ho := ((((Only.refl w.heap.size wr).setCell (i := 0) (.int .i32 r)).setCell (i := 1) (.int .u8 f)).setCell (i := 2) (.int .u8 b)).setCell (i := 3) (.int .u8 a)
  exact ⟨h.take.only ho (.inr (by have := h.far; omega)), (((h.pen.set_ 0 (.int .i32 r)).set_ 1 (.int .u8 f)).set_ 2 (.int .u8 b)).set_ 3 (.int .u8 a), h.out.only ho (by omega), Below.trans h.ext (ho.below (Nat.le_refl _) h.ext.size), h.far⟩
theorem PenSt.told {w wr : World} {B : Nat} {l : List Int} {c : Cel} (h : PenSt w wr B l c) (r f b a : Int) :
    Blk ((((wr.setCell ⟨w.heap.size + 2, 0, none⟩ (.int .i32 r)).setCell ⟨w.heap.size + 2, 1, none⟩ (.int .u8 f)).setCell ⟨w.heap.size + 2, 2, none⟩ (.int .u8 b)).setCell ⟨w.heap.size + 2, 3, none⟩ (.int .u8 a)) (w.heap.size + 2) 23 #[.int .i32 r, .int .u8 f, .int .u8 b, .int .u8 a] ∧
    Ext w ((((wr.setCell ⟨w.heap.size + 2, 0, none⟩ (.int .i32 r)).setCell ⟨w.heap.size + 2, 1, none⟩ (.int .u8 f)).setCell ⟨w.heap.size + 2, 2, none⟩ (.int .u8 b)).setCell ⟨w.heap.size + 2, 3, none⟩ (.int .u8 a)) := by
  have ho := ((((Only.refl (w.heap.size + 2) wr).setCell (i := 0) (.int .i32 r)).setCell (i := 1) (.int .u8 f)).setCell (i := 2) (.int .u8 b)).setCell (i := 3) (.int .u8 a)
  exact ⟨(((h.out.set_ 0 (.int .i32 r)).set_ 1 (.int .u8 f)).set_ 2 (.int .u8 b)).set_ 3 (.int .u8 a), Below.trans h.ext (ho.below (Nat.le_add_right _ _) h.ext.size)⟩
theorem numsP_pos (n : Int) (n0 n1 n2 n3 n4 n5 n6 n7 : Int) : ∃ x t, numsP n [n0, n1, n2, n3, n4, n5, n6, n7] = x :: t := by
  unfold numsP
  split
  · obtain ⟨K, hK⟩ : ∃ K : Nat, (min n 8).toNat = K + 1 := ⟨(min n 8).toNat - 1, by omega⟩
    rw [hK]
    exact ⟨_, _, rfl⟩
  · exact ⟨_, _, rfl⟩
set_option maxHeartbeats 4000000 in
set_option maxRecDepth 100000 in
theorem Apply_set (c : Cel) (n n0 n1 n2 n3 n4 n5 n6 n7 : Int) (w : World) (hW : Ways w) : Calls Tryd.prog 11 #[c.val, .agg (actN 4 109 0 0 n n0 n1 n2 n3 n4 n5 n6 n7)] w fun e w' => e = .returned (runP 8 c (numsP n [n0, n1, n2, n3, n4, n5, n6, n7])).val ∧ Ext w w' := by
  obtain ⟨x, t, hL⟩ := numsP_pos n n0 n1 n2 n3 n4 n5 n6 n7
  have hl8 := numsP_len n [n0, n1, n2, n3, n4, n5, n6, n7]
  have htk := fun V => taker_of 4 109 0 0 n n0 n1 n2 n3 n4 n5 n6 n7 V
  rw [hL] at htk hl8 ⊢
  obtain ⟨R, hR⟩ : ∃ R, runP 8 c (x :: t) = R := ⟨_, rfl⟩
  rw [hR]
  have hR8 : t.length + 1 ≤ 8 := hl8
  have H := Lib.hid (And.intro hW (And.intro htk (And.intro hR8 hR))); clear hW htk hL hl8 hR hR8
  obtain ⟨cr, cf, cb, ca⟩ := c
  dsimp only [Cel.val]
  go_enter Tryd.func11, Tryd.ntmps11
  go_wp2_with fail
  refine (H.out.2.1 _).mono ?_
  rintro e w1 ⟨B, rfl, ht, hB, hx⟩
  have hst : PenSt w w1 B (x :: t) ⟨cr, cf, cb, ca⟩ := ⟨ht, Blk.ext (Blk.ext (Go.heap_alloc_new w _) (((Ext.refl _).alloc _).alloc _)) hx, Blk.ext (heap_three _ _ _ _) hx, ((((Ext.refl w).alloc _).alloc _).alloc _).trans hx, by rw [hB]; simp⟩
  have H1 := Lib.hid hst; clear hst ht hB hx
  go_wp2_with fail
  refine (take_of B _ _ H1.out.take).mono ?_
  rintro e w2 ⟨rfl, ht, ho⟩
  have H2 := Lib.hid (H1.out.took ht ho); clear ht ho
  go_wp2_with fail
  go_loopg [6, 7] 8 (fun k u v wr => ∃ (y : Int) (ok : Bool) (l : List Int) (c : Cel), u = .int .i64 y ∧ v = .bool ok ∧ Hid ((ok = true ∧ l.length + 1 ≤ k ∧ runP k c (y :: l) = R ∨ ok = false ∧ c = R) ∧ PenSt w wr B l c))
  case atStart => exact ⟨x, true, t, _, rfl, rfl, .inl ⟨rfl, H.out.2.2.1, H.out.2.2.2⟩, H2.out⟩
  case round =>
    clear H1 H2
    obtain ⟨y, ok, l, c, rfl, rfl, hin⟩ := hrel
    cases ok with
    | true =>
      have h3 : l.length + 1 ≤ gk ∧ runP gk c (y :: l) = R := by rcases hin.out.1 with h | h; exact h.2; cases h.1
      obtain ⟨k, rfl⟩ : ∃ k, gk = k + 1 := ⟨gk - 1, by omega⟩
      have hll := obeyedP_len c y l
      have hob := penObeyed_of c y B l
      have hrun : runP k (obeyedP c y l).1 (obeyedP c y l).2 = R := h3.2
      generalize obeyedP c y l = q at hll hob hrun
      obtain ⟨⟨qr, qf, qb, qa⟩, m⟩ := q
      obtain ⟨r, f, b, a⟩ := c
      dsimp only [Cel.val] at hob
      have HH := Lib.hid (And.intro (show m.length ≤ k by simp only at hll; omega) (And.intro hrun hob)); clear h3 hll hob hrun
      have k0 : _ = some (Value.int .i32 r) := hin.out.2.pen.cell 0
      have k1 : _ = some (Value.int .u8 f) := hin.out.2.pen.cell 1
      have k2 : _ = some (Value.int .u8 b) := hin.out.2.pen.cell 2
      have k3 : _ = some (Value.int .u8 a) := hin.out.2.pen.cell 3
      go_wp2_with fail
      refine (HH.out.2.2 _ hin.out.2.take (H.out.1.ext hin.out.2.ext)).mono ?_
      rintro e w3 ⟨rfl, ht, ho⟩
      have H3 := Lib.hid (hin.out.2.took ht ho); clear ht ho k0 k1 k2 k3
      have f0 := H3.out.pen.frozen 0
      have f1 := H3.out.pen.frozen 1
      have f2 := H3.out.pen.frozen 2
      have f3 := H3.out.pen.frozen 3
      have k0 : _ = some (Value.int .i32 r) := H3.out.pen.cell 0
      have k1 : _ = some (Value.int .u8 f) := H3.out.pen.cell 1
      have k2 : _ = some (Value.int .u8 b) := H3.out.pen.cell 2
      have k3 : _ = some (Value.int .u8 a) := H3.out.pen.cell 3
      have H4 := Lib.hid (H3.out.store qr qf qb qa)
      go_wp2_with fail
      refine (take_of B _ _ H4.out.take).mono ?_
      rintro e w5 ⟨rfl, ht, ho⟩
      have H5 := Lib.hid (H4.out.took ht ho); clear ht ho k0 k1 k2 k3 f0 f1 f2 f3
      cases m with
      | nil =>
        go_wp2
        go_roundg k
        case measure => omega
        case rel => exact ⟨0, false, [], _, rfl, rfl, .inr ⟨rfl, by rw [← HH.out.2.1, runP_nil]⟩, H5.out⟩
      | cons z m =>
        go_wp2
        go_roundg k
        case measure => omega
        case rel => exact ⟨z, true, m, _, rfl, rfl, .inl ⟨rfl, HH.out.1, HH.out.2.1⟩, H5.out⟩
    | false =>
      have h3 : c = R := by rcases hin.out.1 with h | h; cases h.1; exact h.2
      subst h3
      obtain ⟨r, f, b, a⟩ := c
      have k0 : _ = some (Value.int .i32 r) := hin.out.2.pen.cell 0
      have k1 : _ = some (Value.int .u8 f) := hin.out.2.pen.cell 1
      have k2 : _ = some (Value.int .u8 b) := hin.out.2.pen.cell 2
      have k3 : _ = some (Value.int .u8 a) := hin.out.2.pen.cell 3
      have o0 : _ = some (Value.int .i32 0) := hin.out.2.out.cell 0
      have o1 : _ = some (Value.int .u8 0) := hin.out.2.out.cell 1
      have o2 : _ = some (Value.int .u8 0) := hin.out.2.out.cell 2
      have o3 : _ = some (Value.int .u8 0) := hin.out.2.out.cell 3
      have f0 := hin.out.2.out.frozen 0
      have f1 := hin.out.2.out.frozen 1
      have f2 := hin.out.2.out.frozen 2
      have f3 := hin.out.2.out.frozen 3
      go_wp2
      exact ret_cell1 (c := ⟨r, f, b, a⟩) rfl rfl rfl (hin.out.2.told r f b a).1 ⟨rfl, (hin.out.2.told r f b a).2⟩
theorem Apply_of (c : Cel) (k r p m n n0 n1 n2 n3 n4 n5 n6 n7 : Int) (w : World) (hW : Ways w) : Calls Tryd.prog 11 #[c.val, .agg (actN k r p m n n0 n1 n2 n3 n4 n5 n6 n7)] w fun e w' => e = .returned (penP c k r p m n [n0, n1, n2, n3, n4, n5, n6, n7]).val ∧ Ext w w' := by
  unfold penP
  by_cases h : k ≠ 4 ∨ r ≠ 109 ∨ p ≠ 0 ∨ m ≠ 0
  · rw [if_pos h]; exact Apply_not c k r p m n n0 n1 n2 n3 n4 n5 n6 n7 w h
  · rw [if_neg h]
    obtain ⟨rfl, rfl, rfl, rfl⟩ : k = 4 ∧ r = 109 ∧ p = 0 ∧ m = 0 := by omega
    exact Apply_set c n n0 n1 n2 n3 n4 n5 n6 n7 w hW
end Go.Proofs.YtgnknliaeoblhabDoor
namespace Go.Proofs.YtgnknliaeoblhabDoor
open Go Go.RowKit

def foldN (n : Int) : Nat := if 0 ≤ n then (2 * n).toNat else (-2 * n - 1).toNat
def unfoldN (u : Nat) : Int := if u % 2 = 0 then ((u / 2 : Nat) : Int) else -((u / 2 : Nat) : Int) - 1
theorem foldN_lt {n : Int} (h0 : -9223372036854775808 ≤ n) (h1 : n ≤ 9223372036854775807) : foldN n < 18446744073709551616 := by
  unfold foldN; split <;> omega
theorem unfold_fold (n : Int) : unfoldN (foldN n) = n := by
  unfold foldN unfoldN; split <;> split <;> omega
theorem fold_unfold (u : Nat) : foldN (unfoldN u) = u := by
  unfold foldN unfoldN; split <;> split <;> omega
theorem unfoldN_range {u : Nat} (h : u < 18446744073709551616) : -9223372036854775808 ≤ unfoldN u ∧ unfoldN u ≤ 9223372036854775807 := by
  unfold unfoldN; split <;> omega

/-- A folded number's bytes. -/
def encN (u : Nat) : List UInt8 := if u < 128 then [UInt8.ofNat u] else UInt8.ofNat (u % 128 + 128) :: encN (u / 128)
termination_by u
decreasing_by omega
theorem encN_small {u : Nat} (h : u < 128) : encN u = [UInt8.ofNat u] := by rw [encN, if_pos h]
theorem encN_big {u : Nat} (h : ¬u < 128) : encN u = UInt8.ofNat (u % 128 + 128) :: encN (u / 128) := by rw [encN, if_neg h]
theorem encN_pos (u : Nat) : 1 ≤ (encN u).length := by
  by_cases h : u < 128
  · rw [encN_small h]; simp
  · rw [encN_big h]; simp
theorem encN_mono : ∀ (v u : Nat), u ≤ v → (encN u).length ≤ (encN v).length := by
  intro v
  induction v using Nat.strongRecOn with
  | _ v ih =>
    intro u h
    by_cases hu : u < 128
    · rw [encN_small hu]; exact encN_pos v
    · rw [encN_big hu, encN_big (show ¬v < 128 by omega)]
      simp only [List.length_cons]
      have := ih (v / 128) (by omega) (u / 128) (by omega)
      omega
/-- How much room a number has from its i-th byte on. -/
theorem lim_step : ∀ i, i < 9 → 2 ^ (64 - 7 * i) = 128 * 2 ^ (64 - 7 * (i + 1)) := by decide
theorem encN_len : ∀ (i u : Nat), i ≤ 9 → u < 2 ^ (64 - 7 * i) → i + (encN u).length ≤ 10 := by
  intro i u
  induction u using Nat.strongRecOn generalizing i with
  | _ u ih =>
    intro hi hu
    by_cases h : u < 128
    · rw [encN_small h]; simp; omega
    · have h9 : i < 9 := by
        rcases Nat.lt_or_ge i 9 with h' | h'
        · exact h'
        · obtain rfl : i = 9 := by omega
          simp at hu; omega
      have hl := lim_step i h9
      have hlt : u / 128 < 2 ^ (64 - 7 * (i + 1)) := by
        generalize 2 ^ (64 - 7 * (i + 1)) = L at hl ⊢
        omega
      have hk := ih (u / 128) (by omega) (i + 1) (by omega) hlt
      rw [encN_big h, List.length_cons]
      omega
theorem encN_len10 {u : Nat} (h : u < 18446744073709551616) : (encN u).length ≤ 10 := by
  have := encN_len 0 u (by omega) h
  omega

/-- What a row begins with: what is wrong with it, or a folded number, and how many bytes it has. -/
inductive Got where
  | bad (code : Int)
  | num (u k : Nat)
def rd (i acc : Nat) : List UInt8 → Got
  | [] => .bad 11
  | b :: r => if (i = 9 ∧ 1 < b.toNat) ∨ (0 < i ∧ b.toNat = 0) then .bad 10 else if b.toNat < 128 then .num (acc + b.toNat * 128 ^ i) (i + 1) else rd (i + 1) (acc + (b.toNat - 128) * 128 ^ i) r
theorem toNat_ofNat8 {n : Nat} (h : n < 256) : (UInt8.ofNat n).toNat = n := by
  rw [UInt8.toNat_ofNat']; exact Nat.mod_eq_of_lt h
theorem rd_enc : ∀ (u i acc : Nat) (t : List UInt8), i ≤ 9 → u < 2 ^ (64 - 7 * i) → (0 < i → 0 < u) → rd i acc (encN u ++ t) = .num (acc + u * 128 ^ i) (i + (encN u).length) := by
  intro u
  induction u using Nat.strongRecOn with
  | _ u ih =>
    intro i acc t hi hu h0
    by_cases h : u < 128
    · rw [encN_small h]
      show rd i acc (UInt8.ofNat u :: t) = _
      have e := toNat_ofNat8 (show u < 256 by omega)
      rw [rd, e, if_neg, if_pos h]
      · rfl
      · rintro (⟨rfl, h1⟩ | ⟨h1, h2⟩)
        · simp at hu; omega
        · have := h0 h1; omega
    · have h9 : i < 9 := by
        rcases Nat.lt_or_ge i 9 with h' | h'
        · exact h'
        · obtain rfl : i = 9 := by omega
          simp at hu; omega
      have hl := lim_step i h9
      rw [encN_big h]
      show rd i acc (UInt8.ofNat (u % 128 + 128) :: (encN (u / 128) ++ t)) = _
      have e := toNat_ofNat8 (show u % 128 + 128 < 256 by omega)
      have hlt : u / 128 < 2 ^ (64 - 7 * (i + 1)) := by
        generalize 2 ^ (64 - 7 * (i + 1)) = L at hl ⊢
        omega
      rw [rd, e, if_neg (by omega), if_neg (by omega), ih (u / 128) (by omega) (i + 1) _ t (by omega) hlt (fun _ => by omega)]
      congr 1
      · rw [Nat.pow_succ, show u % 128 + 128 - 128 = u % 128 from by omega, Nat.mul_comm (128 ^ i) 128, ← Nat.mul_assoc, Nat.add_assoc, ← Nat.add_mul]
        congr 2; omega
      · simp only [List.length_cons]; omega
theorem rd_num : ∀ (l : List UInt8) (i acc u k : Nat), i ≤ 9 → rd i acc l = .num u k →
    ∃ v, u = acc + v * 128 ^ i ∧ l.take (k - i) = encN v ∧ k = i + (encN v).length ∧ k - i ≤ l.length ∧ (0 < i → 0 < v) ∧ v < 2 ^ (64 - 7 * i) := by
  intro l
  induction l with
  | nil => intro i acc u k _ h; simp [rd] at h
  | cons b r ih =>
    intro i acc u k hi h
    have hb := b.toNat_lt
    rw [rd] at h
    split at h
    · cases h
    rename_i hn
    split at h
    · rename_i h1
      injection h with e1 e2
      subst e1 e2
      refine ⟨b.toNat, rfl, ?_, ?_, by simp, fun h0 => by omega, ?_⟩
      · rw [encN_small h1, Nat.add_sub_cancel_left]; simp
      · rw [encN_small h1]; rfl
      · rcases Nat.lt_or_ge i 9 with h9 | h9
        · rw [lim_step i h9]
          have := Nat.two_pow_pos (64 - 7 * (i + 1))
          generalize 2 ^ (64 - 7 * (i + 1)) = L at this
          omega
        · obtain rfl : i = 9 := by omega
          simp; omega
    · rename_i h1
      have h9 : i < 9 := by omega
      obtain ⟨v, e1, e2, e3, e4, e5, e6⟩ := ih (i + 1) _ u k (by omega) h
      have hv := e5 (by omega)
      have hp := encN_pos v
      have hm : (b.toNat - 128 + 128 * v) % 128 + 128 = b.toNat := by omega
      have hd : (b.toNat - 128 + 128 * v) / 128 = v := by omega
      have he : encN (b.toNat - 128 + 128 * v) = b :: encN v := by
        rw [encN_big (by omega), hm, hd]; simp
      refine ⟨b.toNat - 128 + 128 * v, ?_, ?_, ?_, ?_, fun _ => by omega, ?_⟩
      · rw [e1, Nat.pow_succ, Nat.add_mul, Nat.add_assoc, Nat.mul_comm (128 ^ i) 128, ← Nat.mul_assoc, Nat.mul_comm v 128]
      · rw [he, show k - i = (k - (i + 1)) + 1 from by omega, List.take_succ_cons, e2]
      · rw [he, List.length_cons]; omega
      · rw [List.length_cons]; omega
      · rw [lim_step i h9]
        generalize 2 ^ (64 - 7 * (i + 1)) = L at e6
        omega
theorem rd_enc0 (u : Nat) (t : List UInt8) (h : u < 18446744073709551616) : rd 0 0 (encN u ++ t) = .num u (encN u).length := by
  rw [rd_enc u 0 0 t (by omega) h (fun h => absurd h (by omega))]
  simp
theorem rd_num0 {l : List UInt8} {u k : Nat} (h : rd 0 0 l = .num u k) : l.take k = encN u ∧ k = (encN u).length ∧ k ≤ l.length ∧ u < 18446744073709551616 := by
  obtain ⟨v, e1, e2, e3, e4, _, e6⟩ := rd_num l 0 0 u k (by omega) h
  obtain rfl : u = v := by simpa using e1
  exact ⟨by simpa using e2, by simpa using e3, by simpa using e4, by simpa using e6⟩
theorem rd_bad : ∀ (l : List UInt8) (i acc : Nat) (c : Int), rd i acc l = .bad c → c = 10 ∨ c = 11
  | [], i, acc, c, h => by rw [rd] at h; injection h with h; exact .inr h.symm
  | b :: r, i, acc, c, h => by
    rw [rd] at h
    split at h
    · injection h with h; exact .inl h.symm
    · split at h
      · cases h
      · exact rd_bad r _ _ c h
end Go.Proofs.YtgnknliaeoblhabDoor
namespace Go.Proofs.YtgnknliaeoblhabDoor
open Go Go.RowKit

def cellsB (l : List UInt8) : List Value := l.map fun b => .int .u8 b.toNat
theorem cellsB_append (a b : List UInt8) : cellsB (a ++ b) = cellsB a ++ cellsB b := List.map_append
/-- A row of bytes of the call's own. -/
def OwnB (w : World) (base : Nat) (v : Value) (l : List UInt8) : Prop := w.ownsRow base 5 1 v l.length (cellsB l)
theorem cellsB_one (n : Nat) (h : n < 256) : cellsB [UInt8.ofNat n] = [.int .u8 n] := by
  simp only [cellsB, List.map_cons, List.map_nil, toNat_ofNat8 h]
theorem infoByteB : (Tryd.prog.info? 5).map (fun i => (i.zero, i.size, i.bytes)) = some (some (.int .u8 0), 1, 1) := by kernel_rfl
theorem OwnB.more {w : World} {base : Nat} {v : Value} {l m : List UInt8} (h : w.ownsRow base 5 1 v (l.length + m.length) (cellsB l ++ cellsB m)) : OwnB w base v (l ++ m) := by
  unfold OwnB
  rw [List.length_append, cellsB_append]; exact h
theorem below_own {base : Nat} {w0 w w' : World} {e : TypeId} {n : Nat} {v : Value} {xs : List Value} (h : Below base w0 w) (hw : base ≤ w.heap.size) (ho : w.ownsRow base e 1 v n xs) (hg : w.grownBy w' v.ownBlock) : Below base w0 w' :=
  h.grown hg hw fun k hk => (ho.lt k hk).1
end Go.Proofs.YtgnknliaeoblhabDoor
namespace Go.Proofs.YtgnknliaeoblhabDoor
open Go Go.RowKit

/-- The bytes of numbers, one behind the other. -/
def putN (zs : List Int) : List UInt8 := (zs.map fun n => encN (foldN n)).flatten
theorem putN_append (a b : List Int) : putN (a ++ b) = putN a ++ putN b := by
  unfold putN; rw [List.map_append, List.flatten_append]
theorem putN_one (n : Int) : putN [n] = encN (foldN n) := by simp [putN]
theorem putN_take (zs : List Int) (i : Nat) (n : Int) (h : zs[i]? = some n) : putN (zs.take (i + 1)) = putN (zs.take i) ++ encN (foldN n) := by
  rw [List.take_add_one, h, putN_append]; simp [putN]
def isI64 (n : Int) : Prop := -9223372036854775808 ≤ n ∧ n ≤ 9223372036854775807
theorem putN_len : ∀ (zs : List Int), (∀ n, n ∈ zs → isI64 n) → (putN zs).length ≤ 10 * zs.length
  | [], _ => by simp [putN]
  | n :: zs, h => by
    have h1 := putN_len zs fun m hm => h m (List.mem_cons_of_mem _ hm)
    have h2 := h n (List.mem_cons_self ..)
    have h3 := encN_len10 (foldN_lt h2.1 h2.2)
    rw [show putN (n :: zs) = encN (foldN n) ++ putN zs from by simp [putN], List.length_append, List.length_cons]
    omega
/-- A slice that reads as a row of numbers. -/
def IsInts (w : World) (v : Value) (zs : List Int) : Prop :=
  ∃ A c, v = .slice A zs.length c ∧ (zs.length ≤ c ∧ (A = none → c = 0)) ∧ ∀ i n, zs[i]? = some n → isI64 n ∧ ∃ g off, A = some ⟨g, off, none⟩ ∧ w.cell? ⟨g, off + i, none⟩ = some (.int .i64 n)
theorem IsInts.ext {w w' : World} {v : Value} {zs : List Int} (h : IsInts w v zs) (hx : Ext w w') : IsInts w' v zs := by
  obtain ⟨A, c, e, hc, h⟩ := h
  refine ⟨A, c, e, hc, fun i n hi => ?_⟩
  obtain ⟨h1, g, off, h2, h3⟩ := h i n hi
  exact ⟨h1, g, off, h2, hx.cell h3⟩
theorem IsInts.all {w : World} {v : Value} {zs : List Int} (h : IsInts w v zs) : ∀ n, n ∈ zs → isI64 n := by
  obtain ⟨A, c, e, hc, h⟩ := h
  intro n hn
  obtain ⟨i, hi⟩ := List.getElem?_of_mem hn
  exact (h i n hi).1
theorem conv_own (w : World) (base g cap : Nat) (l : List UInt8) (h : OwnB w base (.slice (some ⟨g, 0, none⟩) l.length cap) l) : (convert 68 9 (.slice (some ⟨g, 0, none⟩) l.length cap)).run Tryd.prog w = .ok (.string ⟨l.toArray⟩) w :=
  run_convert_bytes_back w _ _ 5 ⟨g, 0, none⟩ cap l Tryd.underlying68 Tryd.underlying5 Tryd.underlying9 fun j hj => by
    refine World.ownsRow.cells h rfl j _ ?_
    rw [cellsB, List.getElem?_map, List.getElem?_eq_getElem hj]
    rfl
theorem ints_new (w : World) (l : List Int) (T : TypeId) (h : ∀ n, n ∈ l → isI64 n) : IsInts (w.alloc (.cells (l.map (Value.int .i64)).toArray T)) (.slice (some ⟨w.heap.size, 0, none⟩) l.length l.length) l := by
  refine ⟨_, _, rfl, ⟨Nat.le_refl _, fun h => by cases h⟩, fun i n hi => ⟨h n (List.mem_of_getElem? hi), _, _, rfl, ?_⟩⟩
  rw [Lib.cell_of_heap (Go.heap_alloc_new _ _), Nat.zero_add]
  rw [List.getElem?_toArray, List.getElem?_map, hi]; rfl
end Go.Proofs.YtgnknliaeoblhabDoor
namespace Go.Proofs.YtgnknliaeoblhabDoor
open Go Go.RowKit

theorem IsInts.cut {w : World} {A : Option Addr} {c : Nat} {zs : List Int} (h : IsInts w (.slice A zs.length c) zs) (k : Nat) (hk : k ≤ zs.length) : IsInts w (.slice A k c) (zs.take k) := by
  obtain ⟨A', c', e, hc, h⟩ := h
  injection e with e1 _ e3
  subst e1 e3
  have hl : (zs.take k).length = k := by rw [List.length_take]; omega
  refine ⟨A, c, by rw [hl], ⟨by have := hc.1; omega, hc.2⟩, fun i n hi => ?_⟩
  have hik : i < k := by
    have := (List.getElem?_eq_some_iff.1 hi).1
    omega
  rw [List.getElem?_take_of_lt hik] at hi
  exact h i n hi
theorem IsInts.addr {w : World} {A : Option Addr} {n c : Nat} {zs : List Int} (h : IsInts w (.slice A n c) zs) (hk : 0 < zs.length) : ∃ g off, A = some ⟨g, off, none⟩ := by
  obtain ⟨A', c', e, hc, h⟩ := h
  injection e with e1 _ e3
  subst e1 e3
  obtain ⟨_, g, off, e, _⟩ := h 0 _ (List.getElem?_eq_getElem hk)
  exact ⟨g, off, e⟩
theorem IsInts.form {w : World} {v : Value} {zs : List Int} (h : IsInts w v zs) : ∃ A c, v = .slice A zs.length c ∧ zs.length ≤ c ∧ (A = none → c = 0) := by
  obtain ⟨A, c, e, hc, _⟩ := h
  exact ⟨A, c, e, hc.1, hc.2⟩
theorem IsInts.at {w : World} {A : Option Addr} {n c : Nat} {zs : List Int} (h : IsInts w (.slice A n c) zs) {i : Nat} {m : Int} (hi : zs[i]? = some m) : isI64 m ∧ ∃ g off, A = some ⟨g, off, none⟩ ∧ w.cell? ⟨g, off + i, none⟩ = some (.int .i64 m) := by
  obtain ⟨A', c', e, _, h⟩ := h
  injection e with e1 _ _
  subst e1
  exact h i m hi
theorem IsInts.at' {w : World} {g off n c : Nat} {zs : List Int} (h : IsInts w (.slice (some ⟨g, off, none⟩) n c) zs) {i : Nat} {m : Int} (hi : zs[i]? = some m) : isI64 m ∧ w.cell? ⟨g, off + i, none⟩ = some (.int .i64 m) := by
  obtain ⟨h1, g', off', e, hc⟩ := h.at hi
  injection e with e
  injection e with e1 e2 _
  subst e1 e2
  exact ⟨h1, hc⟩
/-- The first so many of a row. -/
def firsts (zs : List Int) (k : Nat) : List Int := if k < zs.length then zs.take k else zs
theorem firsts_len (zs : List Int) (k : Nat) : (firsts zs k).length ≤ k := by
  unfold firsts; split
  · rw [List.length_take]; omega
  · omega
end Go.Proofs.YtgnknliaeoblhabDoor
namespace Go.Proofs.YtgnknliaeoblhabDoor
open Go Go.RowKit

theorem i64_mask (n : Int) (k : Nat) (hk : k ≤ 62) (m : Int) (hm : (BitVec.ofInt 64 m).toNat = 2 ^ k - 1) : bits .and .i64 n m = n % (2 ^ k : Nat) := by
  have key : (BitVec.ofInt 64 n &&& BitVec.ofInt 64 m).toNat = (n % ((2 ^ 64 : Nat) : Int)).toNat % 2 ^ k := by
    rw [BitVec.toNat_and, BitVec.toNat_ofInt, hm, Nat.and_two_pow_sub_one_eq_mod]
  show IntKind.i64.wrap ((BitVec.ofInt 64 n &&& BitVec.ofInt 64 m).toNat : Nat) = _
  rw [key, IntKind.wrap_i64]
  have h1 : (2 ^ k : Nat) ∣ 2 ^ 64 := Nat.pow_dvd_pow 2 (by omega)
  have h2 : (((n % ((2 ^ 64 : Nat) : Int)).toNat : Nat) : Int) = n % ((2 ^ 64 : Nat) : Int) := Int.toNat_of_nonneg (Int.emod_nonneg _ (by decide))
  have h3 : (((n % ((2 ^ 64 : Nat) : Int)).toNat % 2 ^ k : Nat) : Int) = n % (2 ^ k : Nat) := by
    rw [Int.natCast_emod, h2]
    exact Int.emod_emod_of_dvd n (Int.natCast_dvd_natCast.2 h1)
  rw [h3]
  have h4 : (0 : Int) ≤ n % (2 ^ k : Nat) := Int.emod_nonneg _ (by have := Nat.two_pow_pos k; omega)
  have h5 : n % (2 ^ k : Nat) < (2 ^ k : Nat) := Int.emod_lt_of_pos _ (by have := Nat.two_pow_pos k; omega)
  have h6 : (2 ^ k : Nat) ≤ 2 ^ 62 := Nat.pow_le_pow_right (by decide) hk
  generalize n % (2 ^ k : Nat) = r at h4 h5
  generalize (2 ^ k : Nat) = q at h5 h6
  omega
end Go.Proofs.YtgnknliaeoblhabDoor
