/- The law CheckParts, walked. -/
import Derived.Test.YtlcnicgjlddldaaSumD
namespace Go.Proofs.Ytlcnicgjlddldaa
open Go Go.RowKit

theorem bts_append (x y : ByteArray) : bts (x ++ y) = bts x ++ bts y := by
  unfold bts
  rw [ByteArray.data_append, Array.toList_append]
theorem SumT.small {w : World} {g s : Nat} (h : SumT w g s) : s < 4294967296 := SumAt.small h
theorem SumT.ext {w w' : World} {g s : Nat} (h : SumT w g s) (hx : Ext w w') : SumT w' g s := SumAt.ext h hx
theorem sumOf_back (l : List UInt8) : sumOf l ^^^ 4294967295 = eats 4294967295 l := by
  unfold sumOf
  rw [Nat.xor_assoc, Nat.xor_self, Nat.xor_zero]
theorem sumOf_more (l m : List UInt8) : eats (sumOf l ^^^ 4294967295) m ^^^ 4294967295 = sumOf (l ++ m) := by
  rw [sumOf_back, ← eats_append]; rfl
theorem allBytes_two (x y : ByteArray) : allBytes [x, y] = bts x ++ bts y := by simp [allBytes]
theorem strs_two (w : World) (x y : ByteArray) (T : TypeId) : StrsAt (w.alloc (.cells #[.string x, .string y] T)) w.heap.size 0 [x, y] := by
  intro i s h
  match i, h with
  | 0, h => cases h; rw [Lib.cell_of_heap (Go.heap_alloc_new _ _)]; rfl
  | 1, h => cases h; rw [Lib.cell_of_heap (Go.heap_alloc_new _ _)]; rfl
theorem SumAt.lt {w : World} {g s : Nat} {tab : Nat → Nat} (h : SumAt w g s tab) : g < w.heap.size := by
  obtain ⟨arr, hb, _⟩ := h.blk
  exact (Array.getElem?_eq_some_iff.1 hb).1
theorem Ready.ext {w w' : World} {g s : Nat} (h : Ready w g s) (hx : Ext w w') : Ready w' g s := by
  obtain ⟨tab, h1, h2⟩ := h
  exact ⟨tab, h1.ext hx, h2⟩
/-- Parts that were just laid in a row of their own go in. -/
theorem Write_fresh (g s : Nat) (w : World) (o : Obj) (l : List ByteArray) (w0 : World) (h : Ready w g s) (hl : StrsAt (w.alloc o) w.heap.size 0 l) (hz : ∀ x, x ∈ l → x.size < 9223372036854775807) (hn : l.length < 1000000) (h0 : Ext w0 w) (hg : w0.heap.size ≤ g) :
    Calls Try.prog 9 #[.pointer (some ⟨g, 0, none⟩), .slice (some ⟨w.heap.size, 0, none⟩) l.length l.length] (w.alloc o) fun e w' => e = .returned (.pointer (some ⟨g, 0, none⟩)) ∧ SumT w' g (eats (s ^^^ 4294967295) (allBytes l) ^^^ 4294967295) ∧ Ext w0 w' := by
  have hlt : g < w.heap.size := by obtain ⟨tab, h1, _⟩ := h; exact h1.lt
  refine (Write_at g s (w.alloc o) w.heap.size 0 l.length l (by omega) (h.ext ((Ext.refl w).alloc o)) hl hz hn).mono ?_
  rintro e w' ⟨rfl, h1, h2⟩
  exact ⟨rfl, h1, Below.trans (h0.alloc o) (h2.below hg (h0.alloc o).size)⟩
theorem Reset_fresh (g s : Nat) (w w0 : World) (h : SumT w g s) (h0 : Ext w0 w) (hg : w0.heap.size ≤ g) : Calls Try.prog 11 #[.pointer (some ⟨g, 0, none⟩)] w fun e w' => e = .returned (.tuple #[]) ∧ SumT w' g 0 ∧ Ext w0 w' := by
  refine (Reset_at g s _ w h).mono ?_
  rintro e w' ⟨rfl, rfl⟩
  exact ⟨rfl, SumAt.setSum h (by decide), h0.setCell hg _⟩
set_option maxHeartbeats 4000000 in
set_option maxRecDepth 100000 in
theorem parts_true (a b c : ByteArray) (w : World) : Calls Try.prog 3 #[.string a, .string b, .string c] w fun e w' => e = .returned (.bool true) ∧ Ext w w' := by
  go_enter Try.func3, Try.ntmps3
  go_wp2_with fail
  refine (awake_true _).mono ?_
  rintro e w1 ⟨rfl, hx1⟩
  go_wp2_with (go_at_call 7; refine (short_of _ 100 _ (by decide)).mono ?_; rintro e w2 ⟨rfl, rfl⟩)
  have ha := shortOf_le a 100
  have hb := shortOf_le b 100
  have hc := shortOf_le c 100
  generalize shortOf a 100 = x at ha ⊢
  generalize shortOf b 100 = y at hb ⊢
  generalize shortOf c 100 = z at hc ⊢
  refine (New_at _).mono ?_
  rintro e w3 ⟨rfl, h3, hx3⟩
  go_wp2_with fail
  refine (Write_fresh w2.heap.size 0 w3 _ [x, y] w2 (Ready.new h3) (strs_two w3 x y _) (fun s hs => by rcases List.mem_cons.1 hs with rfl | hs; omega; rw [List.mem_singleton.1 hs]; omega) (show 2 < 1000000 by decide) hx3 (Nat.le_refl _)).mono ?_
  rintro e w4 ⟨rfl, h4, hx4⟩
  rw [zero_start, allBytes_two, ← bts_append] at h4
  replace h4 : SumT w4 w2.heap.size (sumOf (bts (x ++ y))) := h4
  clear h3 hx3
  go_wp2_with fail
  refine (Sum_at _ _ _ w4 h4).mono ?_
  rintro e w5 ⟨rfl, rfl⟩
  go_wp2_with fail
  refine (Write_fresh w2.heap.size _ w5 _ [z] w2 h4.ready (strs_one w5 z _) (fun s hs => by rw [List.mem_singleton.1 hs]; omega) (show 1 < 1000000 by decide) hx4 (Nat.le_refl _)).mono ?_
  rintro e w6 ⟨rfl, h6, hx6⟩
  rw [allBytes_one, sumOf_more, ← bts_append] at h6
  go_wp2_with fail
  refine (Sum_at _ _ _ w6 h6).mono ?_
  rintro e w7 ⟨rfl, rfl⟩
  go_wp2_with fail
  refine (Reset_fresh _ _ w7 w2 h6 hx6 (Nat.le_refl _)).mono ?_
  rintro e w8 ⟨rfl, h8, hx8⟩
  clear h4 h6 hx6 hx4
  go_wp2_with fail
  refine (Sum_at _ _ _ w8 h8).mono ?_
  rintro e w9 ⟨rfl, rfl⟩
  go_wp2_with fail
  refine (Write_fresh w2.heap.size _ w9 _ [z] w2 h8.ready (strs_one w9 z _) (fun s hs => by rw [List.mem_singleton.1 hs]; omega) (show 1 < 1000000 by decide) hx8 (Nat.le_refl _)).mono ?_
  rintro e w10 ⟨rfl, h10, hx10⟩
  rw [zero_start, allBytes_one] at h10
  replace h10 : SumT w10 w2.heap.size (sumOf (bts z)) := h10
  go_wp2_with fail
  refine (Sum_at _ _ _ w10 h10).mono ?_
  rintro e w11 ⟨rfl, rfl⟩
  clear h8 hx8
  have z1 : (x ++ y).size < 9223372036854775807 := by rw [ByteArray.size_append]; omega
  have z2 : (x ++ y ++ z).size < 9223372036854775807 := by rw [ByteArray.size_append, ByteArray.size_append]; omega
  go_wp2_with fail
  refine (Sum_text _ _ z1).mono ?_
  rintro e w12 ⟨rfl, hx12⟩
  go_wp2_with fail
  refine (Sum_text _ _ z2).mono ?_
  rintro e w13 ⟨rfl, hx13⟩
  go_wp2_with fail
  refine (Sum_text _ _ (by decide)).mono ?_
  rintro e w14 ⟨rfl, hx14⟩
  rw [show sumOf (bts ⟨#[]⟩) = 0 from by decide +kernel]
  go_wp2_with fail
  refine (Sum_text _ _ (by omega)).mono ?_
  rintro e w15 ⟨rfl, hx15⟩
  go_wp2
  go_ret
  exact ⟨rfl, hx1.trans ((((hx10.trans hx12).trans hx13).trans hx14).trans hx15)⟩
end Go.Proofs.Ytlcnicgjlddldaa
