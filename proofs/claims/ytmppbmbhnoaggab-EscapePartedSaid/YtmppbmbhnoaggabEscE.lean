/- A control sequence goes on, or ends. -/
import Derived.Test.YtmppbmbhnoaggabEscD
namespace Go.Proofs.Ytmppbmbhnoaggab
open Go Go.RowKit
attribute [local go_sem 10000] eq_par

set_option maxHeartbeats 2000000 in
set_option maxRecDepth 100000 in
theorem control_end8 (w : World) (g : Nat) (st pr mid n0 n1 n2 n3 n4 n5 n6 n7 r : Int) (h : ParAt w g ⟨st, pr, mid, 9, [n0, n1, n2, n3, n4, n5, n6, n7]⟩) (h1 : 64 ≤ r) (h2 : r ≤ 126) :
    Calls Try.prog 23 #[.pointer (some ⟨g, 0, none⟩), .int .i32 r] w fun e w' => e = .returned (toldV ⟨4, r, pr, mid, 8, [n0, n1, n2, n3, n4, n5, n6, n7]⟩) ∧ ParAt w' g .new ∧ Only g w w' := by
  have hR := fun W (k : ParAt W g ⟨st, pr, mid, 9, [n0, n1, n2, n3, n4, n5, n6, n7]⟩) => Reset_of W g _ k rfl
  have HR := Lib.hid hR; clear hR
  have hlt := h.lt
  have HB := Lib.hid (boxed w)
  have H := Lib.hid (And.intro h hlt)
  obtain ⟨c0, c1, c2, c3, c4, c5, c6, c7, c8, c9, ca, cb⟩ := h.facts rfl
  simp only at c0 c1 c2 c3
  have hen := Lib.hid (ends_of r)
  clear h
  have hd : decide (64 ≤ r ∧ r ≤ 126) = true := by simp; omega
  rw [hd] at hen
  go_enter Try.func23, Try.ntmps23
  go_wp2_with fail
  refine (hen.out _).mono ?_
  rintro e w2 ⟨rfl, rfl⟩
  go_wp2_with fail
  go_region
  go_wp2_with fail
  have HX := Lib.hid (((Ext.refl (w.alloc (.cells zero13 31))).alloc (.cells #[.int .i64 4, .int .i32 r, .int .u8 pr, .int .u8 mid, .int .i64 8, .int .i64 n0, .int .i64 n1, .int .i64 n2, .int .i64 n3, .int .i64 n4, .int .i64 n5, .int .i64 n6, .int .i64 n7] 31)).drew)
  have hA : Blk (((w.alloc (.cells zero13 31)).alloc (.cells #[.int .i64 4, .int .i32 r, .int .u8 pr, .int .u8 mid, .int .i64 8, .int .i64 n0, .int .i64 n1, .int .i64 n2, .int .i64 n3, .int .i64 n4, .int .i64 n5, .int .i64 n6, .int .i64 n7] 31)).drew) (w.heap.size + 1) 31 #[.int .i64 4, .int .i32 r, .int .u8 pr, .int .u8 mid, .int .i64 8, .int .i64 n0, .int .i64 n1, .int .i64 n2, .int .i64 n3, .int .i64 n4, .int .i64 n5, .int .i64 n6, .int .i64 n7] := Go.heap_alloc2_new w _ _
  have HA := Lib.hid hA; clear hA
  refine (HR.out _ (Blk.ext (HB.out.par H.out.1) HX.out)).mono ?_
  rintro e w3 ⟨rfl, hp3, ho3'⟩
  have ho3 := (Only.of_ext (g := g) HX.out).trans ho3'
  have hA3 := HA.out.only ho3' (by omega)
  have k0 : w3.cell? ⟨w.heap.size + 1, 0, none⟩ = some (.int .i64 4) := Blk.cell hA3 0
  have k1 : w3.cell? ⟨w.heap.size + 1, 1, none⟩ = some (.int .i32 r) := Blk.cell hA3 1
  have k2 : w3.cell? ⟨w.heap.size + 1, 2, none⟩ = some (.int .u8 pr) := Blk.cell hA3 2
  have k3 : w3.cell? ⟨w.heap.size + 1, 3, none⟩ = some (.int .u8 mid) := Blk.cell hA3 3
  have k4 : w3.cell? ⟨w.heap.size + 1, 4, none⟩ = some (.int .i64 8) := Blk.cell hA3 4
  have k5 : w3.cell? ⟨w.heap.size + 1, 5, none⟩ = some (.int .i64 n0) := Blk.cell hA3 5
  have k6 : w3.cell? ⟨w.heap.size + 1, 6, none⟩ = some (.int .i64 n1) := Blk.cell hA3 6
  have k7 : w3.cell? ⟨w.heap.size + 1, 7, none⟩ = some (.int .i64 n2) := Blk.cell hA3 7
  have k8 : w3.cell? ⟨w.heap.size + 1, 8, none⟩ = some (.int .i64 n3) := Blk.cell hA3 8
  have k9 : w3.cell? ⟨w.heap.size + 1, 9, none⟩ = some (.int .i64 n4) := Blk.cell hA3 9
  have k10 : w3.cell? ⟨w.heap.size + 1, 10, none⟩ = some (.int .i64 n5) := Blk.cell hA3 10
  have k11 : w3.cell? ⟨w.heap.size + 1, 11, none⟩ = some (.int .i64 n6) := Blk.cell hA3 11
  have k12 : w3.cell? ⟨w.heap.size + 1, 12, none⟩ = some (.int .i64 n7) := Blk.cell hA3 12
  clear ho3' hA3
  have H3 := Lib.hid (And.intro hp3 (And.intro ho3 (HB.out.after H.out.2 ho3))); clear hp3 ho3 c0 c1 c2 c3 c4 c5 c6 c7 c8 c9 ca cb
  go_wp2_with (with_reducible refine wpList_stop ?_)
  unfold StopAt
  refine wpList_store_act rfl _ _ rfl w.heap.size ⟨4, r, pr, mid, 8, [n0, n1, n2, n3, n4, n5, n6, n7]⟩ rfl rfl rfl _ H3.out.2.2 rfl ?_
  intro w4 hb4 ho4
  have H4 := Lib.hid (And.intro hb4 ho4); clear hb4 ho4
  go_wp2
  exact ret_act rfl rfl rfl H4.out.1 rfl ⟨rfl, told_end H.out.2 HB.out H3.out.2.1 H3.out.1 H4.out.2⟩
set_option maxHeartbeats 2000000 in
set_option maxRecDepth 100000 in
theorem control_end (w : World) (g : Nat) (st pr mid n0 n1 n2 n3 n4 n5 n6 n7 r : Int) (n : Nat) (h : ParAt w g ⟨st, pr, mid, n, [n0, n1, n2, n3, n4, n5, n6, n7]⟩) (hn : n ≤ 8) (h1 : 64 ≤ r) (h2 : r ≤ 126) :
    Calls Try.prog 23 #[.pointer (some ⟨g, 0, none⟩), .int .i32 r] w fun e w' => e = .returned (toldV ⟨4, r, pr, mid, n, [n0, n1, n2, n3, n4, n5, n6, n7]⟩) ∧ ParAt w' g .new ∧ Only g w w' := by
  have hR := fun W (k : ParAt W g ⟨st, pr, mid, n, [n0, n1, n2, n3, n4, n5, n6, n7]⟩) => Reset_of W g _ k rfl
  have HR := Lib.hid hR; clear hR
  have hlt := h.lt
  have HB := Lib.hid (boxed w)
  have H := Lib.hid (And.intro h hlt)
  obtain ⟨c0, c1, c2, c3, c4, c5, c6, c7, c8, c9, ca, cb⟩ := h.facts rfl
  simp only at c0 c1 c2 c3
  have hen := Lib.hid (ends_of r)
  clear h
  have hd : decide (64 ≤ r ∧ r ≤ 126) = true := by simp; omega
  rw [hd] at hen
  go_enter Try.func23, Try.ntmps23
  go_wp2_with fail
  refine (hen.out _).mono ?_
  rintro e w2 ⟨rfl, rfl⟩
  go_wp2_with fail
  go_region
  go_wp2_with fail
  have HX := Lib.hid (((Ext.refl (w.alloc (.cells zero13 31))).alloc (.cells #[.int .i64 4, .int .i32 r, .int .u8 pr, .int .u8 mid, .int .i64 n, .int .i64 n0, .int .i64 n1, .int .i64 n2, .int .i64 n3, .int .i64 n4, .int .i64 n5, .int .i64 n6, .int .i64 n7] 31)).drew)
  have hA : Blk (((w.alloc (.cells zero13 31)).alloc (.cells #[.int .i64 4, .int .i32 r, .int .u8 pr, .int .u8 mid, .int .i64 n, .int .i64 n0, .int .i64 n1, .int .i64 n2, .int .i64 n3, .int .i64 n4, .int .i64 n5, .int .i64 n6, .int .i64 n7] 31)).drew) (w.heap.size + 1) 31 #[.int .i64 4, .int .i32 r, .int .u8 pr, .int .u8 mid, .int .i64 n, .int .i64 n0, .int .i64 n1, .int .i64 n2, .int .i64 n3, .int .i64 n4, .int .i64 n5, .int .i64 n6, .int .i64 n7] := Go.heap_alloc2_new w _ _
  have HA := Lib.hid hA; clear hA
  refine (HR.out _ (Blk.ext (HB.out.par H.out.1) HX.out)).mono ?_
  rintro e w3 ⟨rfl, hp3, ho3'⟩
  have ho3 := (Only.of_ext (g := g) HX.out).trans ho3'
  have hA3 := HA.out.only ho3' (by omega)
  have k0 : w3.cell? ⟨w.heap.size + 1, 0, none⟩ = some (.int .i64 4) := Blk.cell hA3 0
  have k1 : w3.cell? ⟨w.heap.size + 1, 1, none⟩ = some (.int .i32 r) := Blk.cell hA3 1
  have k2 : w3.cell? ⟨w.heap.size + 1, 2, none⟩ = some (.int .u8 pr) := Blk.cell hA3 2
  have k3 : w3.cell? ⟨w.heap.size + 1, 3, none⟩ = some (.int .u8 mid) := Blk.cell hA3 3
  have k4 : w3.cell? ⟨w.heap.size + 1, 4, none⟩ = some (.int .i64 n) := Blk.cell hA3 4
  have k5 : w3.cell? ⟨w.heap.size + 1, 5, none⟩ = some (.int .i64 n0) := Blk.cell hA3 5
  have k6 : w3.cell? ⟨w.heap.size + 1, 6, none⟩ = some (.int .i64 n1) := Blk.cell hA3 6
  have k7 : w3.cell? ⟨w.heap.size + 1, 7, none⟩ = some (.int .i64 n2) := Blk.cell hA3 7
  have k8 : w3.cell? ⟨w.heap.size + 1, 8, none⟩ = some (.int .i64 n3) := Blk.cell hA3 8
  have k9 : w3.cell? ⟨w.heap.size + 1, 9, none⟩ = some (.int .i64 n4) := Blk.cell hA3 9
  have k10 : w3.cell? ⟨w.heap.size + 1, 10, none⟩ = some (.int .i64 n5) := Blk.cell hA3 10
  have k11 : w3.cell? ⟨w.heap.size + 1, 11, none⟩ = some (.int .i64 n6) := Blk.cell hA3 11
  have k12 : w3.cell? ⟨w.heap.size + 1, 12, none⟩ = some (.int .i64 n7) := Blk.cell hA3 12
  clear ho3' hA3
  have H3 := Lib.hid (And.intro hp3 (And.intro ho3 (HB.out.after H.out.2 ho3))); clear hp3 ho3 c0 c1 c2 c3 c4 c5 c6 c7 c8 c9 ca cb
  go_wp2_with (with_reducible refine wpList_stop ?_)
  unfold StopAt
  refine wpList_store_act rfl _ _ rfl w.heap.size ⟨4, r, pr, mid, n, [n0, n1, n2, n3, n4, n5, n6, n7]⟩ rfl rfl rfl _ H3.out.2.2 rfl ?_
  intro w4 hb4 ho4
  have H4 := Lib.hid (And.intro hb4 ho4); clear hb4 ho4
  go_wp2
  exact ret_act rfl rfl rfl H4.out.1 rfl ⟨rfl, told_end H.out.2 HB.out H3.out.2.1 H3.out.1 H4.out.2⟩
set_option maxHeartbeats 2000000 in
set_option maxRecDepth 100000 in
theorem control_digit (w : World) (g : Nat) (st pr n0 n1 n2 n3 n4 n5 n6 n7 r : Int) (n : Nat) (h : ParAt w g ⟨st, pr, 0, n, [n0, n1, n2, n3, n4, n5, n6, n7]⟩) (hok : Par.ok ⟨st, pr, 0, n, [n0, n1, n2, n3, n4, n5, n6, n7]⟩) (h1 : 48 ≤ r) (h2 : r ≤ 57) :
    Calls Try.prog 23 #[.pointer (some ⟨g, 0, none⟩), .int .i32 r] w fun e w' => e = .returned (toldV .none) ∧ ParAt w' g (digitE ⟨st, pr, 0, n, [n0, n1, n2, n3, n4, n5, n6, n7]⟩ (r - 48)) ∧ Only g w w' := by
  have hR := fun W (k : ParAt W g ⟨st, pr, 0, n, [n0, n1, n2, n3, n4, n5, n6, n7]⟩) => digit_of W g _ (r - 48) k hok (by omega) (by omega)
  have HR := Lib.hid hR; clear hR hok
  have hlt := h.lt
  have HB := Lib.hid (boxed w)
  have H := Lib.hid (And.intro h hlt)
  obtain ⟨c0, c1, c2, c3, c4, c5, c6, c7, c8, c9, ca, cb⟩ := h.facts rfl
  simp only at c0 c1 c2 c3
  have hen := Lib.hid (ends_of r)
  clear h
  have hd : decide (64 ≤ r ∧ r ≤ 126) = false := by simp; omega
  rw [hd] at hen
  go_enter Try.func23, Try.ntmps23
  go_wp2_with fail
  refine (hen.out _).mono ?_
  rintro e w2 ⟨rfl, rfl⟩
  go_wp2_with fail
  refine (HR.out _ (HB.out.par H.out.1)).mono ?_
  rintro e w3 ⟨rfl, hp3, ho3⟩
  have H3 := Lib.hid (And.intro hp3 (And.intro ho3 (HB.out.after H.out.2 ho3))); clear hp3 ho3 c0 c1 c2 c3 c4 c5 c6 c7 c8 c9 ca cb
  go_wp2_with (with_reducible refine wpList_stop ?_)
  unfold StopAt
  refine wpList_store_act rfl _ _ rfl w.heap.size .none rfl rfl rfl _ H3.out.2.2 rfl ?_
  intro w4 hb4 ho4
  have H4 := Lib.hid (And.intro hb4 ho4); clear hb4 ho4
  go_wp2
  exact ret_act rfl rfl rfl H4.out.1 rfl ⟨rfl, told_end H.out.2 HB.out H3.out.2.1 H3.out.1 H4.out.2⟩
set_option maxHeartbeats 2000000 in
set_option maxRecDepth 100000 in
theorem control_sep0_58 (w : World) (g : Nat) (st pr n0 n1 n2 n3 n4 n5 n6 n7 : Int) (h : ParAt w g ⟨st, pr, 0, 0, [n0, n1, n2, n3, n4, n5, n6, n7]⟩) :
    Calls Try.prog 23 #[.pointer (some ⟨g, 0, none⟩), .int .i32 58] w fun e w' => e = .returned (toldV .none) ∧ ParAt w' g ⟨st, pr, 0, 2, [n0, n1, n2, n3, n4, n5, n6, n7]⟩ ∧ Only g w w' := by
  have hlt := h.lt
  have HB := Lib.hid (boxed w)
  have H := Lib.hid (And.intro h hlt)
  obtain ⟨c0, c1, c2, c3, c4, c5, c6, c7, c8, c9, ca, cb⟩ := h.facts rfl
  have z3 := h.frozen 3
  simp only at c0 c1 c2 c3
  have hen := Lib.hid (ends_of 58)
  clear h
  have HS := Lib.hid (boxedS (par_n H.out.1 2))
  have hd : decide (64 ≤ (58 : Int) ∧ (58 : Int) ≤ 126) = false := by decide
  rw [hd] at hen
  go_enter Try.func23, Try.ntmps23
  go_wp2_with fail
  refine (hen.out _).mono ?_
  rintro e w2 ⟨rfl, rfl⟩
  go_wp2_with (with_reducible refine wpList_stop ?_)
  unfold StopAt
  refine wpList_store_act rfl _ _ rfl w.heap.size .none rfl rfl rfl _ HS.out.blk rfl ?_
  intro w4 hb4 ho4
  have H4 := Lib.hid (And.intro hb4 ho4); clear hb4 ho4
  go_wp2
  exact ret_act rfl rfl rfl H4.out.1 rfl ⟨rfl, told_endS H.out.2 HS.out H4.out.2⟩
set_option maxHeartbeats 2000000 in
set_option maxRecDepth 100000 in
theorem control_sep0_59 (w : World) (g : Nat) (st pr n0 n1 n2 n3 n4 n5 n6 n7 : Int) (h : ParAt w g ⟨st, pr, 0, 0, [n0, n1, n2, n3, n4, n5, n6, n7]⟩) :
    Calls Try.prog 23 #[.pointer (some ⟨g, 0, none⟩), .int .i32 59] w fun e w' => e = .returned (toldV .none) ∧ ParAt w' g ⟨st, pr, 0, 2, [n0, n1, n2, n3, n4, n5, n6, n7]⟩ ∧ Only g w w' := by
  have hlt := h.lt
  have HB := Lib.hid (boxed w)
  have H := Lib.hid (And.intro h hlt)
  obtain ⟨c0, c1, c2, c3, c4, c5, c6, c7, c8, c9, ca, cb⟩ := h.facts rfl
  have z3 := h.frozen 3
  simp only at c0 c1 c2 c3
  have hen := Lib.hid (ends_of 59)
  clear h
  have HS := Lib.hid (boxedS (par_n H.out.1 2))
  have hd : decide (64 ≤ (59 : Int) ∧ (59 : Int) ≤ 126) = false := by decide
  rw [hd] at hen
  go_enter Try.func23, Try.ntmps23
  go_wp2_with fail
  refine (hen.out _).mono ?_
  rintro e w2 ⟨rfl, rfl⟩
  go_wp2_with (with_reducible refine wpList_stop ?_)
  unfold StopAt
  refine wpList_store_act rfl _ _ rfl w.heap.size .none rfl rfl rfl _ HS.out.blk rfl ?_
  intro w4 hb4 ho4
  have H4 := Lib.hid (And.intro hb4 ho4); clear hb4 ho4
  go_wp2
  exact ret_act rfl rfl rfl H4.out.1 rfl ⟨rfl, told_endS H.out.2 HS.out H4.out.2⟩
set_option maxHeartbeats 2000000 in
set_option maxRecDepth 100000 in
theorem control_sep9_58 (w : World) (g : Nat) (st pr n0 n1 n2 n3 n4 n5 n6 n7 : Int) (h : ParAt w g ⟨st, pr, 0, 9, [n0, n1, n2, n3, n4, n5, n6, n7]⟩) :
    Calls Try.prog 23 #[.pointer (some ⟨g, 0, none⟩), .int .i32 58] w fun e w' => e = .returned (toldV .none) ∧ ParAt w' g ⟨st, pr, 0, 9, [n0, n1, n2, n3, n4, n5, n6, n7]⟩ ∧ Only g w w' := by
  have hlt := h.lt
  have HB := Lib.hid (boxed w)
  have H := Lib.hid (And.intro h hlt)
  obtain ⟨c0, c1, c2, c3, c4, c5, c6, c7, c8, c9, ca, cb⟩ := h.facts rfl
  have z3 := h.frozen 3
  simp only at c0 c1 c2 c3
  have hen := Lib.hid (ends_of 58)
  clear h
  have HS := Lib.hid (boxedS (par_n H.out.1 9))
  have hd : decide (64 ≤ (58 : Int) ∧ (58 : Int) ≤ 126) = false := by decide
  rw [hd] at hen
  go_enter Try.func23, Try.ntmps23
  go_wp2_with fail
  refine (hen.out _).mono ?_
  rintro e w2 ⟨rfl, rfl⟩
  go_wp2_with (with_reducible refine wpList_stop ?_)
  unfold StopAt
  refine wpList_store_act rfl _ _ rfl w.heap.size .none rfl rfl rfl _ HS.out.blk rfl ?_
  intro w4 hb4 ho4
  have H4 := Lib.hid (And.intro hb4 ho4); clear hb4 ho4
  go_wp2
  exact ret_act rfl rfl rfl H4.out.1 rfl ⟨rfl, told_endS H.out.2 HS.out H4.out.2⟩
set_option maxHeartbeats 2000000 in
set_option maxRecDepth 100000 in
theorem control_sep9_59 (w : World) (g : Nat) (st pr n0 n1 n2 n3 n4 n5 n6 n7 : Int) (h : ParAt w g ⟨st, pr, 0, 9, [n0, n1, n2, n3, n4, n5, n6, n7]⟩) :
    Calls Try.prog 23 #[.pointer (some ⟨g, 0, none⟩), .int .i32 59] w fun e w' => e = .returned (toldV .none) ∧ ParAt w' g ⟨st, pr, 0, 9, [n0, n1, n2, n3, n4, n5, n6, n7]⟩ ∧ Only g w w' := by
  have hlt := h.lt
  have HB := Lib.hid (boxed w)
  have H := Lib.hid (And.intro h hlt)
  obtain ⟨c0, c1, c2, c3, c4, c5, c6, c7, c8, c9, ca, cb⟩ := h.facts rfl
  have z3 := h.frozen 3
  simp only at c0 c1 c2 c3
  have hen := Lib.hid (ends_of 59)
  clear h
  have HS := Lib.hid (boxedS (par_n H.out.1 9))
  have hd : decide (64 ≤ (59 : Int) ∧ (59 : Int) ≤ 126) = false := by decide
  rw [hd] at hen
  go_enter Try.func23, Try.ntmps23
  go_wp2_with fail
  refine (hen.out _).mono ?_
  rintro e w2 ⟨rfl, rfl⟩
  go_wp2_with (with_reducible refine wpList_stop ?_)
  unfold StopAt
  refine wpList_store_act rfl _ _ rfl w.heap.size .none rfl rfl rfl _ HS.out.blk rfl ?_
  intro w4 hb4 ho4
  have H4 := Lib.hid (And.intro hb4 ho4); clear hb4 ho4
  go_wp2
  exact ret_act rfl rfl rfl H4.out.1 rfl ⟨rfl, told_endS H.out.2 HS.out H4.out.2⟩
set_option maxHeartbeats 2000000 in
set_option maxRecDepth 100000 in
theorem control_sep_58 (w : World) (g : Nat) (st pr n0 n1 n2 n3 n4 n5 n6 n7 : Int) (n : Nat) (h : ParAt w g ⟨st, pr, 0, n, [n0, n1, n2, n3, n4, n5, n6, n7]⟩) (hn1 : 1 ≤ n) (hn : n ≤ 8) :
    Calls Try.prog 23 #[.pointer (some ⟨g, 0, none⟩), .int .i32 58] w fun e w' => e = .returned (toldV .none) ∧ ParAt w' g ⟨st, pr, 0, n + 1, [n0, n1, n2, n3, n4, n5, n6, n7]⟩ ∧ Only g w w' := by
  have hlt := h.lt
  have HB := Lib.hid (boxed w)
  have H := Lib.hid (And.intro h hlt)
  obtain ⟨c0, c1, c2, c3, c4, c5, c6, c7, c8, c9, ca, cb⟩ := h.facts rfl
  have z3 := h.frozen 3
  simp only at c0 c1 c2 c3
  have hen := Lib.hid (ends_of 58)
  clear h
  have HS := Lib.hid (boxedS (par_n H.out.1 (n + 1)))
  have hd : decide (64 ≤ (58 : Int) ∧ (58 : Int) ≤ 126) = false := by decide
  rw [hd] at hen
  go_enter Try.func23, Try.ntmps23
  go_wp2_with fail
  refine (hen.out _).mono ?_
  rintro e w2 ⟨rfl, rfl⟩
  go_wp2_with (with_reducible refine wpList_stop ?_)
  unfold StopAt
  refine wpList_store_act rfl _ _ rfl w.heap.size .none rfl rfl rfl _ HS.out.blk rfl ?_
  intro w4 hb4 ho4
  have H4 := Lib.hid (And.intro hb4 ho4); clear hb4 ho4
  go_wp2
  exact ret_act rfl rfl rfl H4.out.1 rfl ⟨rfl, told_endS H.out.2 HS.out H4.out.2⟩
set_option maxHeartbeats 2000000 in
set_option maxRecDepth 100000 in
theorem control_sep_59 (w : World) (g : Nat) (st pr n0 n1 n2 n3 n4 n5 n6 n7 : Int) (n : Nat) (h : ParAt w g ⟨st, pr, 0, n, [n0, n1, n2, n3, n4, n5, n6, n7]⟩) (hn1 : 1 ≤ n) (hn : n ≤ 8) :
    Calls Try.prog 23 #[.pointer (some ⟨g, 0, none⟩), .int .i32 59] w fun e w' => e = .returned (toldV .none) ∧ ParAt w' g ⟨st, pr, 0, n + 1, [n0, n1, n2, n3, n4, n5, n6, n7]⟩ ∧ Only g w w' := by
  have hlt := h.lt
  have HB := Lib.hid (boxed w)
  have H := Lib.hid (And.intro h hlt)
  obtain ⟨c0, c1, c2, c3, c4, c5, c6, c7, c8, c9, ca, cb⟩ := h.facts rfl
  have z3 := h.frozen 3
  simp only at c0 c1 c2 c3
  have hen := Lib.hid (ends_of 59)
  clear h
  have HS := Lib.hid (boxedS (par_n H.out.1 (n + 1)))
  have hd : decide (64 ≤ (59 : Int) ∧ (59 : Int) ≤ 126) = false := by decide
  rw [hd] at hen
  go_enter Try.func23, Try.ntmps23
  go_wp2_with fail
  refine (hen.out _).mono ?_
  rintro e w2 ⟨rfl, rfl⟩
  go_wp2_with (with_reducible refine wpList_stop ?_)
  unfold StopAt
  refine wpList_store_act rfl _ _ rfl w.heap.size .none rfl rfl rfl _ HS.out.blk rfl ?_
  intro w4 hb4 ho4
  have H4 := Lib.hid (And.intro hb4 ho4); clear hb4 ho4
  go_wp2
  exact ret_act rfl rfl rfl H4.out.1 rfl ⟨rfl, told_endS H.out.2 HS.out H4.out.2⟩
set_option maxHeartbeats 2000000 in
set_option maxRecDepth 100000 in
theorem control_priv (w : World) (g : Nat) (r : Int) (h : ParAt w g (.inn 2)) (h1 : 60 ≤ r) (h2 : r ≤ 63) :
    Calls Try.prog 23 #[.pointer (some ⟨g, 0, none⟩), .int .i32 r] w fun e w' => e = .returned (toldV .none) ∧ ParAt w' g ⟨2, r, 0, 0, z8⟩ ∧ Only g w w' := by
  have hlt := h.lt
  have HB := Lib.hid (boxed w)
  have H := Lib.hid (And.intro h hlt)
  obtain ⟨c0, c1, c2, c3, c4, c5, c6, c7, c8, c9, ca, cb⟩ := h.facts rfl
  have z1 := h.frozen 1
  simp only at c0 c1 c2 c3
  have hen := Lib.hid (ends_of r)
  clear h
  have hw : r % 256 = r := by omega
  have he : parEqB 2 2 0 0 0 0 0 0 0 0 0 0 0 = true := by decide
  have HS := Lib.hid (boxedS (par_pr H.out.1 r))
  have e58 : (r == 58) = false := by simp; omega
  have e59 : (r == 59) = false := by simp; omega
  have hd : decide (64 ≤ r ∧ r ≤ 126) = false := by simp; omega
  rw [hd] at hen
  go_enter Try.func23, Try.ntmps23
  go_wp2_with fail
  refine (hen.out _).mono ?_
  rintro e w2 ⟨rfl, rfl⟩
  go_wp2_with (with_reducible refine wpList_stop ?_)
  unfold StopAt
  refine wpList_store_act rfl _ _ rfl w.heap.size .none rfl rfl rfl _ HS.out.blk rfl ?_
  intro w4 hb4 ho4
  have H4 := Lib.hid (And.intro hb4 ho4); clear hb4 ho4
  go_wp2
  exact ret_act rfl rfl rfl H4.out.1 rfl ⟨rfl, told_endS H.out.2 HS.out H4.out.2⟩
set_option maxHeartbeats 2000000 in
set_option maxRecDepth 100000 in
theorem control_mid2 (w : World) (g : Nat) (r : Int) (h : ParAt w g (.inn 2)) (h1 : 32 ≤ r) (h2 : r ≤ 47) :
    Calls Try.prog 23 #[.pointer (some ⟨g, 0, none⟩), .int .i32 r] w fun e w' => e = .returned (toldV .none) ∧ ParAt w' g ⟨2, 0, r, 0, z8⟩ ∧ Only g w w' := by
  have hlt := h.lt
  have HB := Lib.hid (boxed w)
  have H := Lib.hid (And.intro h hlt)
  obtain ⟨c0, c1, c2, c3, c4, c5, c6, c7, c8, c9, ca, cb⟩ := h.facts rfl
  have z2 := h.frozen 2
  simp only at c0 c1 c2 c3
  have hen := Lib.hid (ends_of r)
  clear h
  have hbt := Lib.hid (between_of r)
  have hd2 : decide (32 ≤ r ∧ r ≤ 47) = true := by simp; omega
  rw [hd2] at hbt
  have hw : r % 256 = r := by omega
  have he : parEqB 2 2 0 0 0 0 0 0 0 0 0 0 0 = true := by decide
  have HS := Lib.hid (boxedS (par_mid H.out.1 r))
  have e58 : (r == 58) = false := by simp; omega
  have e59 : (r == 59) = false := by simp; omega
  have hd : decide (64 ≤ r ∧ r ≤ 126) = false := by simp; omega
  rw [hd] at hen
  go_enter Try.func23, Try.ntmps23
  go_wp2_with fail
  refine (hen.out _).mono ?_
  rintro e w2 ⟨rfl, rfl⟩
  go_wp2_with fail
  refine (hbt.out _).mono ?_
  rintro e w2 ⟨rfl, rfl⟩
  go_wp2_with (with_reducible refine wpList_stop ?_)
  unfold StopAt
  refine wpList_store_act rfl _ _ rfl w.heap.size .none rfl rfl rfl _ HS.out.blk rfl ?_
  intro w4 hb4 ho4
  have H4 := Lib.hid (And.intro hb4 ho4); clear hb4 ho4
  go_wp2
  exact ret_act rfl rfl rfl H4.out.1 rfl ⟨rfl, told_endS H.out.2 HS.out H4.out.2⟩
set_option maxHeartbeats 2000000 in
set_option maxRecDepth 100000 in
theorem control_mid (w : World) (g : Nat) (st pr n0 n1 n2 n3 n4 n5 n6 n7 r : Int) (n : Nat) (h : ParAt w g ⟨st, pr, 0, n, [n0, n1, n2, n3, n4, n5, n6, n7]⟩) (he : parEqB 2 st pr 0 n n0 n1 n2 n3 n4 n5 n6 n7 = false) (h1 : 32 ≤ r) (h2 : r ≤ 47) :
    Calls Try.prog 23 #[.pointer (some ⟨g, 0, none⟩), .int .i32 r] w fun e w' => e = .returned (toldV .none) ∧ ParAt w' g ⟨st, pr, r, n, [n0, n1, n2, n3, n4, n5, n6, n7]⟩ ∧ Only g w w' := by
  have hlt := h.lt
  have HB := Lib.hid (boxed w)
  have H := Lib.hid (And.intro h hlt)
  obtain ⟨c0, c1, c2, c3, c4, c5, c6, c7, c8, c9, ca, cb⟩ := h.facts rfl
  have z2 := h.frozen 2
  simp only at c0 c1 c2 c3
  have hen := Lib.hid (ends_of r)
  clear h
  have hbt := Lib.hid (between_of r)
  have hd2 : decide (32 ≤ r ∧ r ≤ 47) = true := by simp; omega
  rw [hd2] at hbt
  have hw : r % 256 = r := by omega
  have HS := Lib.hid (boxedS (par_mid H.out.1 r))
  have e58 : (r == 58) = false := by simp; omega
  have e59 : (r == 59) = false := by simp; omega
  have hd : decide (64 ≤ r ∧ r ≤ 126) = false := by simp; omega
  rw [hd] at hen
  go_enter Try.func23, Try.ntmps23
  go_wp2_with fail
  refine (hen.out _).mono ?_
  rintro e w2 ⟨rfl, rfl⟩
  go_wp2_with fail
  refine (hbt.out _).mono ?_
  rintro e w2 ⟨rfl, rfl⟩
  go_wp2_with (with_reducible refine wpList_stop ?_)
  unfold StopAt
  refine wpList_store_act rfl _ _ rfl w.heap.size .none rfl rfl rfl _ HS.out.blk rfl ?_
  intro w4 hb4 ho4
  have H4 := Lib.hid (And.intro hb4 ho4); clear hb4 ho4
  go_wp2
  exact ret_act rfl rfl rfl H4.out.1 rfl ⟨rfl, told_endS H.out.2 HS.out H4.out.2⟩
set_option maxHeartbeats 2000000 in
set_option maxRecDepth 100000 in
theorem control_bad2 (w : World) (g : Nat) (r : Int) (h : ParAt w g (.inn 2)) (h1 : 126 < r) :
    Calls Try.prog 23 #[.pointer (some ⟨g, 0, none⟩), .int .i32 r] w fun e w' => e = .returned (toldV .none) ∧ ParAt w' g (.inn 3) ∧ Only g w w' := by
  have hlt := h.lt
  have HB := Lib.hid (boxed w)
  have H := Lib.hid (And.intro h hlt)
  obtain ⟨c0, c1, c2, c3, c4, c5, c6, c7, c8, c9, ca, cb⟩ := h.facts rfl
  simp only at c0 c1 c2 c3
  have hen := Lib.hid (ends_of r)
  clear h
  have hbt := Lib.hid (between_of r)
  have hd2 : decide (32 ≤ r ∧ r ≤ 47) = false := by simp; omega
  rw [hd2] at hbt
  have he : parEqB 2 2 0 0 0 0 0 0 0 0 0 0 0 = true := by decide
  have e58 : (r == 58) = false := by simp; omega
  have e59 : (r == 59) = false := by simp; omega
  have hd : decide (64 ≤ r ∧ r ≤ 126) = false := by simp; omega
  rw [hd] at hen
  go_enter Try.func23, Try.ntmps23
  go_wp2_with fail
  refine (hen.out _).mono ?_
  rintro e w2 ⟨rfl, rfl⟩
  go_wp2_with fail
  refine (hbt.out _).mono ?_
  rintro e w2 ⟨rfl, rfl⟩
  go_wp2_with (with_reducible refine wpList_stopP ?_)
  unfold StopAt
  refine wpList_store_par rfl _ _ rfl g _ (.inn 3) rfl rfl rfl rfl (HB.out.par H.out.1) ?_
  intro w3 hp3 ho3
  have H3 := Lib.hid (And.intro hp3 (And.intro ho3 (HB.out.after H.out.2 ho3))); clear hp3 ho3 c0 c1 c2 c3 c4 c5 c6 c7 c8 c9 ca cb
  go_wp2_with (with_reducible refine wpList_stop ?_)
  unfold StopAt
  refine wpList_store_act rfl _ _ rfl w.heap.size .none rfl rfl rfl _ H3.out.2.2 rfl ?_
  intro w4 hb4 ho4
  have H4 := Lib.hid (And.intro hb4 ho4); clear hb4 ho4
  go_wp2
  exact ret_act rfl rfl rfl H4.out.1 rfl ⟨rfl, told_end H.out.2 HB.out H3.out.2.1 H3.out.1 H4.out.2⟩
set_option maxHeartbeats 2000000 in
set_option maxRecDepth 100000 in
theorem control_bad0 (w : World) (g : Nat) (st pr n0 n1 n2 n3 n4 n5 n6 n7 r : Int) (n : Nat) (h : ParAt w g ⟨st, pr, 0, n, [n0, n1, n2, n3, n4, n5, n6, n7]⟩) (he : parEqB 2 st pr 0 n n0 n1 n2 n3 n4 n5 n6 n7 = false) (h1 : 60 ≤ r) (h2 : r ≤ 63 ∨ 126 < r) :
    Calls Try.prog 23 #[.pointer (some ⟨g, 0, none⟩), .int .i32 r] w fun e w' => e = .returned (toldV .none) ∧ ParAt w' g (.inn 3) ∧ Only g w w' := by
  have hlt := h.lt
  have HB := Lib.hid (boxed w)
  have H := Lib.hid (And.intro h hlt)
  obtain ⟨c0, c1, c2, c3, c4, c5, c6, c7, c8, c9, ca, cb⟩ := h.facts rfl
  simp only at c0 c1 c2 c3
  have hen := Lib.hid (ends_of r)
  clear h
  have hbt := Lib.hid (between_of r)
  have hd2 : decide (32 ≤ r ∧ r ≤ 47) = false := by simp; omega
  rw [hd2] at hbt
  have e58 : (r == 58) = false := by simp; omega
  have e59 : (r == 59) = false := by simp; omega
  have hd : decide (64 ≤ r ∧ r ≤ 126) = false := by simp; omega
  rw [hd] at hen
  go_enter Try.func23, Try.ntmps23
  go_wp2_with fail
  refine (hen.out _).mono ?_
  rintro e w2 ⟨rfl, rfl⟩
  go_wp2_with fail
  refine (hbt.out _).mono ?_
  rintro e w2 ⟨rfl, rfl⟩
  go_wp2_with (with_reducible refine wpList_stopP ?_)
  unfold StopAt
  refine wpList_store_par rfl _ _ rfl g _ (.inn 3) rfl rfl rfl rfl (HB.out.par H.out.1) ?_
  intro w3 hp3 ho3
  have H3 := Lib.hid (And.intro hp3 (And.intro ho3 (HB.out.after H.out.2 ho3))); clear hp3 ho3 c0 c1 c2 c3 c4 c5 c6 c7 c8 c9 ca cb
  go_wp2_with (with_reducible refine wpList_stop ?_)
  unfold StopAt
  refine wpList_store_act rfl _ _ rfl w.heap.size .none rfl rfl rfl _ H3.out.2.2 rfl ?_
  intro w4 hb4 ho4
  have H4 := Lib.hid (And.intro hb4 ho4); clear hb4 ho4
  go_wp2
  exact ret_act rfl rfl rfl H4.out.1 rfl ⟨rfl, told_end H.out.2 HB.out H3.out.2.1 H3.out.1 H4.out.2⟩
set_option maxHeartbeats 2000000 in
set_option maxRecDepth 100000 in
theorem control_bad (w : World) (g : Nat) (st pr mid n0 n1 n2 n3 n4 n5 n6 n7 r : Int) (n : Nat) (h : ParAt w g ⟨st, pr, mid, n, [n0, n1, n2, n3, n4, n5, n6, n7]⟩) (he : parEqB 2 st pr mid n n0 n1 n2 n3 n4 n5 n6 n7 = false) (hm : (mid == 0) = false) (h1 : r < 64 ∨ 126 < r) :
    Calls Try.prog 23 #[.pointer (some ⟨g, 0, none⟩), .int .i32 r] w fun e w' => e = .returned (toldV .none) ∧ ParAt w' g (.inn 3) ∧ Only g w w' := by
  have hlt := h.lt
  have HB := Lib.hid (boxed w)
  have H := Lib.hid (And.intro h hlt)
  obtain ⟨c0, c1, c2, c3, c4, c5, c6, c7, c8, c9, ca, cb⟩ := h.facts rfl
  simp only at c0 c1 c2 c3
  have hen := Lib.hid (ends_of r)
  clear h
  have hd : decide (64 ≤ r ∧ r ≤ 126) = false := by simp; omega
  rw [hd] at hen
  go_enter Try.func23, Try.ntmps23
  go_wp2_with fail
  refine (hen.out _).mono ?_
  rintro e w2 ⟨rfl, rfl⟩
  go_wp2_with (with_reducible refine wpList_stopP ?_)
  unfold StopAt
  refine wpList_store_par rfl _ _ rfl g _ (.inn 3) rfl rfl rfl rfl (HB.out.par H.out.1) ?_
  intro w3 hp3 ho3
  have H3 := Lib.hid (And.intro hp3 (And.intro ho3 (HB.out.after H.out.2 ho3))); clear hp3 ho3 c0 c1 c2 c3 c4 c5 c6 c7 c8 c9 ca cb
  go_wp2_with (with_reducible refine wpList_stop ?_)
  unfold StopAt
  refine wpList_store_act rfl _ _ rfl w.heap.size .none rfl rfl rfl _ H3.out.2.2 rfl ?_
  intro w4 hb4 ho4
  have H4 := Lib.hid (And.intro hb4 ho4); clear hb4 ho4
  go_wp2
  exact ret_act rfl rfl rfl H4.out.1 rfl ⟨rfl, told_end H.out.2 HB.out H3.out.2.1 H3.out.1 H4.out.2⟩
end Go.Proofs.Ytmppbmbhnoaggab
