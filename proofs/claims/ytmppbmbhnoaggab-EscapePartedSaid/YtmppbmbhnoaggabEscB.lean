/- A digit behind the last number. -/
import Derived.Test.YtmppbmbhnoaggabEscA
namespace Go.Proofs.Ytmppbmbhnoaggab
open Go Go.RowKit

set_option maxHeartbeats 1000000 in
set_option maxRecDepth 100000 in
theorem digit_0 (w : World) (g : Nat) (st pr mid n0 n1 n2 n3 n4 n5 n6 n7 d : Int) (h : ParAt w g ⟨st, pr, mid, 0, [n0, n1, n2, n3, n4, n5, n6, n7]⟩) (h0 : 0 ≤ n0) (h1 : n0 ≤ 9999) (hd0 : 0 ≤ d) (hd : d ≤ 9) :
    Calls Try.prog 27 #[.pointer (some ⟨g, 0, none⟩), .int .i64 d] w fun e w' => e = .returned (.tuple #[]) ∧ ParAt w' g ⟨st, pr, mid, 1, [min (n0 * 10 + d) 9999, n1, n2, n3, n4, n5, n6, n7]⟩ ∧ Only g w w' := by
  generalize hm : min (n0 * 10 + d) 9999 = v
  have H := Lib.hid h
  obtain ⟨c0, c1, c2, c3, c4, c5, c6, c7, c8, c9, ca, cb⟩ := h.facts rfl
  have z3 := h.frozen 3
  have z4 := h.frozen 4
  simp only at c0 c1 c2 c3
  clear h
  go_enter Try.func27, Try.ntmps27
  go_wp2
  go_region
  go_wp2
  · go_end0
    refine ⟨rfl, ?_, (((Only.refl g w).setCell _).setCell _).drew⟩
    obtain rfl : v = 9999 := by omega
    exact Blk.ext (Blk.set_ (Blk.set_ H.out 3 _) 4 _) (Ext.refl _).drew
  · go_end0
    refine ⟨rfl, ?_, (((Only.refl g w).setCell _).setCell _).drew⟩
    obtain rfl : v = n0 * 10 + d := by omega
    exact Blk.ext (Blk.set_ (Blk.set_ H.out 3 _) 4 _) (Ext.refl _).drew
set_option maxHeartbeats 1000000 in
set_option maxRecDepth 100000 in
theorem digit_1 (w : World) (g : Nat) (st pr mid n0 n1 n2 n3 n4 n5 n6 n7 d : Int) (h : ParAt w g ⟨st, pr, mid, 1, [n0, n1, n2, n3, n4, n5, n6, n7]⟩) (h0 : 0 ≤ n0) (h1 : n0 ≤ 9999) (hd0 : 0 ≤ d) (hd : d ≤ 9) :
    Calls Try.prog 27 #[.pointer (some ⟨g, 0, none⟩), .int .i64 d] w fun e w' => e = .returned (.tuple #[]) ∧ ParAt w' g ⟨st, pr, mid, 1, [min (n0 * 10 + d) 9999, n1, n2, n3, n4, n5, n6, n7]⟩ ∧ Only g w w' := by
  generalize hm : min (n0 * 10 + d) 9999 = v
  have H := Lib.hid h
  obtain ⟨c0, c1, c2, c3, c4, c5, c6, c7, c8, c9, ca, cb⟩ := h.facts rfl
  have z3 := h.frozen 3
  have z4 := h.frozen 4
  simp only at c0 c1 c2 c3
  clear h
  go_enter Try.func27, Try.ntmps27
  go_wp2
  go_region
  go_wp2
  · go_end0
    refine ⟨rfl, ?_, (((Only.refl g w).setCell _).setCell _).drew⟩
    obtain rfl : v = 9999 := by omega
    exact Blk.ext (Blk.set_ (Blk.set_ H.out 3 _) 4 _) (Ext.refl _).drew
  · go_end0
    refine ⟨rfl, ?_, (((Only.refl g w).setCell _).setCell _).drew⟩
    obtain rfl : v = n0 * 10 + d := by omega
    exact Blk.ext (Blk.set_ (Blk.set_ H.out 3 _) 4 _) (Ext.refl _).drew
set_option maxHeartbeats 1000000 in
set_option maxRecDepth 100000 in
theorem digit_2 (w : World) (g : Nat) (st pr mid n0 n1 n2 n3 n4 n5 n6 n7 d : Int) (h : ParAt w g ⟨st, pr, mid, 2, [n0, n1, n2, n3, n4, n5, n6, n7]⟩) (h0 : 0 ≤ n1) (h1 : n1 ≤ 9999) (hd0 : 0 ≤ d) (hd : d ≤ 9) :
    Calls Try.prog 27 #[.pointer (some ⟨g, 0, none⟩), .int .i64 d] w fun e w' => e = .returned (.tuple #[]) ∧ ParAt w' g ⟨st, pr, mid, 2, [n0, min (n1 * 10 + d) 9999, n2, n3, n4, n5, n6, n7]⟩ ∧ Only g w w' := by
  generalize hm : min (n1 * 10 + d) 9999 = v
  have H := Lib.hid h
  obtain ⟨c0, c1, c2, c3, c4, c5, c6, c7, c8, c9, ca, cb⟩ := h.facts rfl
  have z3 := h.frozen 3
  have z5 := h.frozen 5
  simp only at c0 c1 c2 c3
  clear h
  go_enter Try.func27, Try.ntmps27
  go_wp2
  go_region
  go_wp2
  · go_end0
    refine ⟨rfl, ?_, (((Only.refl g w).setCell _).setCell _).drew⟩
    obtain rfl : v = 9999 := by omega
    exact Blk.ext (Blk.set_ (Blk.set_ H.out 3 _) 5 _) (Ext.refl _).drew
  · go_end0
    refine ⟨rfl, ?_, (((Only.refl g w).setCell _).setCell _).drew⟩
    obtain rfl : v = n1 * 10 + d := by omega
    exact Blk.ext (Blk.set_ (Blk.set_ H.out 3 _) 5 _) (Ext.refl _).drew
set_option maxHeartbeats 1000000 in
set_option maxRecDepth 100000 in
theorem digit_3 (w : World) (g : Nat) (st pr mid n0 n1 n2 n3 n4 n5 n6 n7 d : Int) (h : ParAt w g ⟨st, pr, mid, 3, [n0, n1, n2, n3, n4, n5, n6, n7]⟩) (h0 : 0 ≤ n2) (h1 : n2 ≤ 9999) (hd0 : 0 ≤ d) (hd : d ≤ 9) :
    Calls Try.prog 27 #[.pointer (some ⟨g, 0, none⟩), .int .i64 d] w fun e w' => e = .returned (.tuple #[]) ∧ ParAt w' g ⟨st, pr, mid, 3, [n0, n1, min (n2 * 10 + d) 9999, n3, n4, n5, n6, n7]⟩ ∧ Only g w w' := by
  generalize hm : min (n2 * 10 + d) 9999 = v
  have H := Lib.hid h
  obtain ⟨c0, c1, c2, c3, c4, c5, c6, c7, c8, c9, ca, cb⟩ := h.facts rfl
  have z3 := h.frozen 3
  have z6 := h.frozen 6
  simp only at c0 c1 c2 c3
  clear h
  go_enter Try.func27, Try.ntmps27
  go_wp2
  go_region
  go_wp2
  · go_end0
    refine ⟨rfl, ?_, (((Only.refl g w).setCell _).setCell _).drew⟩
    obtain rfl : v = 9999 := by omega
    exact Blk.ext (Blk.set_ (Blk.set_ H.out 3 _) 6 _) (Ext.refl _).drew
  · go_end0
    refine ⟨rfl, ?_, (((Only.refl g w).setCell _).setCell _).drew⟩
    obtain rfl : v = n2 * 10 + d := by omega
    exact Blk.ext (Blk.set_ (Blk.set_ H.out 3 _) 6 _) (Ext.refl _).drew
set_option maxHeartbeats 1000000 in
set_option maxRecDepth 100000 in
theorem digit_4 (w : World) (g : Nat) (st pr mid n0 n1 n2 n3 n4 n5 n6 n7 d : Int) (h : ParAt w g ⟨st, pr, mid, 4, [n0, n1, n2, n3, n4, n5, n6, n7]⟩) (h0 : 0 ≤ n3) (h1 : n3 ≤ 9999) (hd0 : 0 ≤ d) (hd : d ≤ 9) :
    Calls Try.prog 27 #[.pointer (some ⟨g, 0, none⟩), .int .i64 d] w fun e w' => e = .returned (.tuple #[]) ∧ ParAt w' g ⟨st, pr, mid, 4, [n0, n1, n2, min (n3 * 10 + d) 9999, n4, n5, n6, n7]⟩ ∧ Only g w w' := by
  generalize hm : min (n3 * 10 + d) 9999 = v
  have H := Lib.hid h
  obtain ⟨c0, c1, c2, c3, c4, c5, c6, c7, c8, c9, ca, cb⟩ := h.facts rfl
  have z3 := h.frozen 3
  have z7 := h.frozen 7
  simp only at c0 c1 c2 c3
  clear h
  go_enter Try.func27, Try.ntmps27
  go_wp2
  go_region
  go_wp2
  · go_end0
    refine ⟨rfl, ?_, (((Only.refl g w).setCell _).setCell _).drew⟩
    obtain rfl : v = 9999 := by omega
    exact Blk.ext (Blk.set_ (Blk.set_ H.out 3 _) 7 _) (Ext.refl _).drew
  · go_end0
    refine ⟨rfl, ?_, (((Only.refl g w).setCell _).setCell _).drew⟩
    obtain rfl : v = n3 * 10 + d := by omega
    exact Blk.ext (Blk.set_ (Blk.set_ H.out 3 _) 7 _) (Ext.refl _).drew
set_option maxHeartbeats 1000000 in
set_option maxRecDepth 100000 in
theorem digit_5 (w : World) (g : Nat) (st pr mid n0 n1 n2 n3 n4 n5 n6 n7 d : Int) (h : ParAt w g ⟨st, pr, mid, 5, [n0, n1, n2, n3, n4, n5, n6, n7]⟩) (h0 : 0 ≤ n4) (h1 : n4 ≤ 9999) (hd0 : 0 ≤ d) (hd : d ≤ 9) :
    Calls Try.prog 27 #[.pointer (some ⟨g, 0, none⟩), .int .i64 d] w fun e w' => e = .returned (.tuple #[]) ∧ ParAt w' g ⟨st, pr, mid, 5, [n0, n1, n2, n3, min (n4 * 10 + d) 9999, n5, n6, n7]⟩ ∧ Only g w w' := by
  generalize hm : min (n4 * 10 + d) 9999 = v
  have H := Lib.hid h
  obtain ⟨c0, c1, c2, c3, c4, c5, c6, c7, c8, c9, ca, cb⟩ := h.facts rfl
  have z3 := h.frozen 3
  have z8 := h.frozen 8
  simp only at c0 c1 c2 c3
  clear h
  go_enter Try.func27, Try.ntmps27
  go_wp2
  go_region
  go_wp2
  · go_end0
    refine ⟨rfl, ?_, (((Only.refl g w).setCell _).setCell _).drew⟩
    obtain rfl : v = 9999 := by omega
    exact Blk.ext (Blk.set_ (Blk.set_ H.out 3 _) 8 _) (Ext.refl _).drew
  · go_end0
    refine ⟨rfl, ?_, (((Only.refl g w).setCell _).setCell _).drew⟩
    obtain rfl : v = n4 * 10 + d := by omega
    exact Blk.ext (Blk.set_ (Blk.set_ H.out 3 _) 8 _) (Ext.refl _).drew
set_option maxHeartbeats 1000000 in
set_option maxRecDepth 100000 in
theorem digit_6 (w : World) (g : Nat) (st pr mid n0 n1 n2 n3 n4 n5 n6 n7 d : Int) (h : ParAt w g ⟨st, pr, mid, 6, [n0, n1, n2, n3, n4, n5, n6, n7]⟩) (h0 : 0 ≤ n5) (h1 : n5 ≤ 9999) (hd0 : 0 ≤ d) (hd : d ≤ 9) :
    Calls Try.prog 27 #[.pointer (some ⟨g, 0, none⟩), .int .i64 d] w fun e w' => e = .returned (.tuple #[]) ∧ ParAt w' g ⟨st, pr, mid, 6, [n0, n1, n2, n3, n4, min (n5 * 10 + d) 9999, n6, n7]⟩ ∧ Only g w w' := by
  generalize hm : min (n5 * 10 + d) 9999 = v
  have H := Lib.hid h
  obtain ⟨c0, c1, c2, c3, c4, c5, c6, c7, c8, c9, ca, cb⟩ := h.facts rfl
  have z3 := h.frozen 3
  have z9 := h.frozen 9
  simp only at c0 c1 c2 c3
  clear h
  go_enter Try.func27, Try.ntmps27
  go_wp2
  go_region
  go_wp2
  · go_end0
    refine ⟨rfl, ?_, (((Only.refl g w).setCell _).setCell _).drew⟩
    obtain rfl : v = 9999 := by omega
    exact Blk.ext (Blk.set_ (Blk.set_ H.out 3 _) 9 _) (Ext.refl _).drew
  · go_end0
    refine ⟨rfl, ?_, (((Only.refl g w).setCell _).setCell _).drew⟩
    obtain rfl : v = n5 * 10 + d := by omega
    exact Blk.ext (Blk.set_ (Blk.set_ H.out 3 _) 9 _) (Ext.refl _).drew
set_option maxHeartbeats 1000000 in
set_option maxRecDepth 100000 in
theorem digit_7 (w : World) (g : Nat) (st pr mid n0 n1 n2 n3 n4 n5 n6 n7 d : Int) (h : ParAt w g ⟨st, pr, mid, 7, [n0, n1, n2, n3, n4, n5, n6, n7]⟩) (h0 : 0 ≤ n6) (h1 : n6 ≤ 9999) (hd0 : 0 ≤ d) (hd : d ≤ 9) :
    Calls Try.prog 27 #[.pointer (some ⟨g, 0, none⟩), .int .i64 d] w fun e w' => e = .returned (.tuple #[]) ∧ ParAt w' g ⟨st, pr, mid, 7, [n0, n1, n2, n3, n4, n5, min (n6 * 10 + d) 9999, n7]⟩ ∧ Only g w w' := by
  generalize hm : min (n6 * 10 + d) 9999 = v
  have H := Lib.hid h
  obtain ⟨c0, c1, c2, c3, c4, c5, c6, c7, c8, c9, ca, cb⟩ := h.facts rfl
  have z3 := h.frozen 3
  have z10 := h.frozen 10
  simp only at c0 c1 c2 c3
  clear h
  go_enter Try.func27, Try.ntmps27
  go_wp2
  go_region
  go_wp2
  · go_end0
    refine ⟨rfl, ?_, (((Only.refl g w).setCell _).setCell _).drew⟩
    obtain rfl : v = 9999 := by omega
    exact Blk.ext (Blk.set_ (Blk.set_ H.out 3 _) 10 _) (Ext.refl _).drew
  · go_end0
    refine ⟨rfl, ?_, (((Only.refl g w).setCell _).setCell _).drew⟩
    obtain rfl : v = n6 * 10 + d := by omega
    exact Blk.ext (Blk.set_ (Blk.set_ H.out 3 _) 10 _) (Ext.refl _).drew
set_option maxHeartbeats 1000000 in
set_option maxRecDepth 100000 in
theorem digit_8 (w : World) (g : Nat) (st pr mid n0 n1 n2 n3 n4 n5 n6 n7 d : Int) (h : ParAt w g ⟨st, pr, mid, 8, [n0, n1, n2, n3, n4, n5, n6, n7]⟩) (h0 : 0 ≤ n7) (h1 : n7 ≤ 9999) (hd0 : 0 ≤ d) (hd : d ≤ 9) :
    Calls Try.prog 27 #[.pointer (some ⟨g, 0, none⟩), .int .i64 d] w fun e w' => e = .returned (.tuple #[]) ∧ ParAt w' g ⟨st, pr, mid, 8, [n0, n1, n2, n3, n4, n5, n6, min (n7 * 10 + d) 9999]⟩ ∧ Only g w w' := by
  generalize hm : min (n7 * 10 + d) 9999 = v
  have H := Lib.hid h
  obtain ⟨c0, c1, c2, c3, c4, c5, c6, c7, c8, c9, ca, cb⟩ := h.facts rfl
  have z3 := h.frozen 3
  have z11 := h.frozen 11
  simp only at c0 c1 c2 c3
  clear h
  go_enter Try.func27, Try.ntmps27
  go_wp2
  go_region
  go_wp2
  · go_end0
    refine ⟨rfl, ?_, (((Only.refl g w).setCell _).setCell _).drew⟩
    obtain rfl : v = 9999 := by omega
    exact Blk.ext (Blk.set_ (Blk.set_ H.out 3 _) 11 _) (Ext.refl _).drew
  · go_end0
    refine ⟨rfl, ?_, (((Only.refl g w).setCell _).setCell _).drew⟩
    obtain rfl : v = n7 * 10 + d := by omega
    exact Blk.ext (Blk.set_ (Blk.set_ H.out 3 _) 11 _) (Ext.refl _).drew
set_option maxHeartbeats 1000000 in
set_option maxRecDepth 100000 in
theorem digit_9 (w : World) (g : Nat) (st pr mid n0 n1 n2 n3 n4 n5 n6 n7 d : Int) (h : ParAt w g ⟨st, pr, mid, 9, [n0, n1, n2, n3, n4, n5, n6, n7]⟩) :
    Calls Try.prog 27 #[.pointer (some ⟨g, 0, none⟩), .int .i64 d] w fun e w' => e = .returned (.tuple #[]) ∧ ParAt w' g ⟨st, pr, mid, 9, [n0, n1, n2, n3, n4, n5, n6, n7]⟩ ∧ Only g w w' := by
  have H := Lib.hid (And.intro (Blk.set_ h 3 (.int .i64 9)) ((Only.refl g w).setCell (i := 3) (.int .i64 9)))
  obtain ⟨c0, c1, c2, c3, c4, c5, c6, c7, c8, c9, ca, cb⟩ := h.facts rfl
  have z3 := h.frozen 3
  simp only at c0 c1 c2 c3
  clear h
  go_enter Try.func27, Try.ntmps27
  go_wp2
  go_end0
  exact ⟨rfl, H.out⟩
theorem digit_of (w : World) (g : Nat) (s : Par) (d : Int) (h : ParAt w g s) (hok : s.ok) (hd0 : 0 ≤ d) (hd : d ≤ 9) :
    Calls Try.prog 27 #[.pointer (some ⟨g, 0, none⟩), .int .i64 d] w fun e w' => e = .returned (.tuple #[]) ∧ ParAt w' g (digitE s d) ∧ Only g w w' := by
  obtain ⟨n0, n1, n2, n3, n4, n5, n6, n7, e⟩ := eight _ hok.len
  have hn := hok.n
  have hs := hok.nums
  obtain ⟨st, pr, mid, n, ns⟩ := s
  simp only at e hn hs
  subst e
  clear hok
  have hb : ∀ x, x ∈ [n0, n1, n2, n3, n4, n5, n6, n7] → 0 ≤ x ∧ x ≤ 9999 := hs
  simp only [List.mem_cons, List.not_mem_nil, or_false, forall_eq_or_imp, forall_eq] at hb
  obtain ⟨b0, b1, b2, b3, b4, b5, b6, b7⟩ := hb
  have hc : n = 0 ∨ n = 1 ∨ n = 2 ∨ n = 3 ∨ n = 4 ∨ n = 5 ∨ n = 6 ∨ n = 7 ∨ n = 8 ∨ n = 9 := by omega
  rcases hc with rfl | rfl | rfl | rfl | rfl | rfl | rfl | rfl | rfl | rfl
  · exact digit_0 w g st pr mid n0 n1 n2 n3 n4 n5 n6 n7 d h b0.1 b0.2 hd0 hd
  · exact digit_1 w g st pr mid n0 n1 n2 n3 n4 n5 n6 n7 d h b0.1 b0.2 hd0 hd
  · exact digit_2 w g st pr mid n0 n1 n2 n3 n4 n5 n6 n7 d h b1.1 b1.2 hd0 hd
  · exact digit_3 w g st pr mid n0 n1 n2 n3 n4 n5 n6 n7 d h b2.1 b2.2 hd0 hd
  · exact digit_4 w g st pr mid n0 n1 n2 n3 n4 n5 n6 n7 d h b3.1 b3.2 hd0 hd
  · exact digit_5 w g st pr mid n0 n1 n2 n3 n4 n5 n6 n7 d h b4.1 b4.2 hd0 hd
  · exact digit_6 w g st pr mid n0 n1 n2 n3 n4 n5 n6 n7 d h b5.1 b5.2 hd0 hd
  · exact digit_7 w g st pr mid n0 n1 n2 n3 n4 n5 n6 n7 d h b6.1 b6.2 hd0 hd
  · exact digit_8 w g st pr mid n0 n1 n2 n3 n4 n5 n6 n7 d h b7.1 b7.2 hd0 hd
  · exact digit_9 w g st pr mid n0 n1 n2 n3 n4 n5 n6 n7 d h
end Go.Proofs.Ytmppbmbhnoaggab
