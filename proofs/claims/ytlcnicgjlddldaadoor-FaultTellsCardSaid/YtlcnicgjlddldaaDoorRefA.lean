/- The document's New, At, In, Join; At and In clear of some blocks. -/
import Derived.Test.YtlcnicgjlddldaaDoorFaultQ
import Derived.Test.YtlcnicgjlddldaaDoorFaultO
namespace Go.Proofs.YtlcnicgjlddldaaDoor
open Go Go.RowKit

theorem At_repS (S : Nat → Prop) (u : Option Tr) (v : Value) (p : Int) (w : World) (h : RepOS S w u v) (h0 : -9223372036854775808 ≤ p) (h1 : p ≤ 9223372036854775807) : Calls Tryd.prog 24 #[v, .int .i64 p] w fun e w' => ∃ v', e = .returned v' ∧ RepOS S w' (u.map (.place p)) v' ∧ Ext w w' := by
  cases u with
  | none =>
    obtain rfl : v = .nilIface := h
    exact (at_nil _ _).mono fun e w' ⟨he, hw⟩ => ⟨_, he, rfl, by subst hw; exact Ext.refl _⟩
  | some t =>
    obtain ⟨u, x, rfl⟩ := RepS.form h
    have H := Lib.hid (And.intro h (And.intro h0 h1)); clear h h0 h1
    go_enter Tryd.func24, Tryd.ntmps24
    go_wp2_with (first | (go_at_call 49; refine (strange_rep _ (RepS.rep H.out.1)).mono ?_; rintro e w' ⟨rfl, hx⟩))
    go_ret
    exact ⟨_, rfl, ⟨u, x, rfl, H.out.2, RepS.ext hx H.out.1⟩, hx⟩
theorem In_repS (S : Nat → Prop) (u : Option Tr) (v : Value) (s : ByteArray) (w : World) (h : RepOS S w u v) : Calls Tryd.prog 23 #[v, .string s] w fun e w' => ∃ v', e = .returned v' ∧ RepOS S w' (u.map (.word s)) v' ∧ Ext w w' := by
  cases u with
  | none =>
    obtain rfl : v = .nilIface := h
    exact (in_nil _ _).mono fun e w' ⟨he, hw⟩ => ⟨_, he, rfl, by subst hw; exact Ext.refl _⟩
  | some t =>
    obtain ⟨u, x, rfl⟩ := RepS.form h
    have H := Lib.hid h; clear h
    go_enter Tryd.func23, Tryd.ntmps23
    go_wp2_with (first | (go_at_call 49; refine (strange_rep _ (RepS.rep H.out)).mono ?_; rintro e w' ⟨rfl, hx⟩))
    go_ret
    exact ⟨_, rfl, ⟨u, x, rfl, RepS.ext hx H.out⟩, hx⟩

theorem refNew_zero (S : Nat → Prop) (w : World) : Calls Tryd.prog 37 #[.int .i64 0] w fun e w' => ∃ cs, e = .returned (.agg cs.toArray) ∧ RefO S w' none cs ∧ Ext w w' := by
  go_enter Tryd.func37, Tryd.ntmps37
  go_wp2
  exact bodyPost_ret (v := .agg #[.int .i64 0, .int .i64 0, .int .i64 0, .string ⟨#[]⟩, .slice none 0 0]) (by simp [results, Tryd.results37, go_sem]) rfl ⟨refNone, rfl, rfl, (Ext.refl w).alloc _⟩
theorem refNew_code (S : Nat → Prop) (c : Int) (w : World) (hc : c ≠ 0) : Calls Tryd.prog 37 #[.int .i64 c] w fun e w' => ∃ cs, e = .returned (.agg cs.toArray) ∧ RefO S w' (some (.code c)) cs ∧ Ext w w' := by
  have hb : (c == 0) = false := by simpa using hc
  have HC := Lib.hid hc; clear hc
  go_enter Tryd.func37, Tryd.ntmps37
  go_wp2
  exact bodyPost_ret (v := .agg #[.int .i64 1, .int .i64 c, .int .i64 0, .string ⟨#[]⟩, .slice none 0 0]) (by simp [results, Tryd.results37, go_sem]) rfl ⟨[.int .i64 1, .int .i64 c, .int .i64 0, .string ⟨#[]⟩, .slice none 0 0], rfl, ⟨rfl, HC.out⟩, (Ext.refl w).alloc _⟩
theorem cells_new (w : World) (l : List Value) (T : TypeId) (k : Nat) (hk : k = w.heap.size) : CellsAt (w.alloc (.cells l.toArray T)) k 0 l := by
  subst hk
  intro j u hj
  rw [Lib.cell_of_heap (Go.heap_alloc_new _ _), Nat.zero_add]
  simpa using hj

set_option maxHeartbeats 1000000 in
set_option maxRecDepth 100000 in
theorem refAt_rep (S : Nat → Prop) (u : Option Tr) (cs : List Value) (p : Int) (w : World) (hSl : ∀ k, S k → k < w.heap.size) (h : RefO S w u cs) :
    Calls Tryd.prog 34 #[.agg cs.toArray, .int .i64 p] w fun e w' => ∃ cs', e = .returned (.agg cs'.toArray) ∧ RefO S w' (u.map (.place p)) cs' ∧ Ext w w' := by
  have hf := h.form
  obtain ⟨k, c, q, z, a, n, cap, rfl, hk⟩ := hf
  have HS := Lib.hid hSl; clear hSl
  have HR := Lib.hid h; clear h
  cases u with
  | none =>
    obtain rfl : k = 0 := hk.2 rfl
    clear hk
    go_enter Tryd.func34, Tryd.ntmps34
    go_wp2
    refine bodyPost_ret (v := .agg #[.int .i64 0, .int .i64 c, .int .i64 q, .string z, .slice a n cap]) (by simp [results, Tryd.results34, go_sem]) rfl ⟨_, rfl, HR.out, ?_⟩
    exact ((Ext.refl w).alloc _).alloc _
  | some t =>
    have hk0 : k ≠ 0 := fun e => by have := hk.1 e; cases this
    clear hk
    have hkb : ((k : Int) == 0) = false := by simp; omega
    clear hk0
    go_enter Tryd.func34, Tryd.ntmps34
    go_wp2
    have hx : Ext w (((w.alloc (.cells #[.int .i64 k, .int .i64 c, .int .i64 q, .string z, .slice a n cap] 37)).alloc (.cells #[.int .i64 2, .int .i64 0, .int .i64 p, .string ⟨#[]⟩, .slice (some ⟨w.heap.size + 1 + 1, 0, none⟩) 1 1] 37)).alloc (.cells #[.int .i64 k, .int .i64 c, .int .i64 q, .string z, .slice a n cap] 37)) := (((Ext.refl w).alloc _).alloc _).alloc _
    refine bodyPost_ret (v := .agg #[.int .i64 2, .int .i64 0, .int .i64 p, .string ⟨#[]⟩, .slice (some ⟨w.heap.size + 1 + 1, 0, none⟩) 1 1]) (by simp [results, Tryd.results34, go_sem]) rfl ⟨[.int .i64 2, .int .i64 0, .int .i64 p, .string ⟨#[]⟩, .slice (some ⟨w.heap.size + 1 + 1, 0, none⟩) 1 1], rfl, ⟨w.heap.size + 1 + 1, 1, [.int .i64 k, .int .i64 c, .int .i64 q, .string z, .slice a n cap], rfl, fun h => ?_, rfl, ?_, ?_⟩, hx⟩
    · have := HS.out _ h; omega
    · exact cells_new _ _ _ _ (by simp)
    · exact RefT.kept (hx.but S) (fun _ h => .inl h) HR.out
set_option maxHeartbeats 1000000 in
set_option maxRecDepth 100000 in
theorem refIn_rep (S : Nat → Prop) (u : Option Tr) (cs : List Value) (p : ByteArray) (w : World) (hSl : ∀ k, S k → k < w.heap.size) (h : RefO S w u cs) :
    Calls Tryd.prog 35 #[.agg cs.toArray, .string p] w fun e w' => ∃ cs', e = .returned (.agg cs'.toArray) ∧ RefO S w' (u.map (.word p)) cs' ∧ Ext w w' := by
  have hf := h.form
  obtain ⟨k, c, q, z, a, n, cap, rfl, hk⟩ := hf
  have HS := Lib.hid hSl; clear hSl
  have HR := Lib.hid h; clear h
  cases u with
  | none =>
    obtain rfl : k = 0 := hk.2 rfl
    clear hk
    go_enter Tryd.func35, Tryd.ntmps35
    go_wp2
    refine bodyPost_ret (v := .agg #[.int .i64 0, .int .i64 c, .int .i64 q, .string z, .slice a n cap]) (by simp [results, Tryd.results35, go_sem]) rfl ⟨_, rfl, HR.out, ?_⟩
    exact ((Ext.refl w).alloc _).alloc _
  | some t =>
    have hk0 : k ≠ 0 := fun e => by have := hk.1 e; cases this
    clear hk
    have hkb : ((k : Int) == 0) = false := by simp; omega
    clear hk0
    go_enter Tryd.func35, Tryd.ntmps35
    go_wp2
    have hx : Ext w (((w.alloc (.cells #[.int .i64 k, .int .i64 c, .int .i64 q, .string z, .slice a n cap] 37)).alloc (.cells #[.int .i64 3, .int .i64 0, .int .i64 0, .string p, .slice (some ⟨w.heap.size + 1 + 1, 0, none⟩) 1 1] 37)).alloc (.cells #[.int .i64 k, .int .i64 c, .int .i64 q, .string z, .slice a n cap] 37)) := (((Ext.refl w).alloc _).alloc _).alloc _
    refine bodyPost_ret (v := .agg #[.int .i64 3, .int .i64 0, .int .i64 0, .string p, .slice (some ⟨w.heap.size + 1 + 1, 0, none⟩) 1 1]) (by simp [results, Tryd.results35, go_sem]) rfl ⟨[.int .i64 3, .int .i64 0, .int .i64 0, .string p, .slice (some ⟨w.heap.size + 1 + 1, 0, none⟩) 1 1], rfl, ⟨w.heap.size + 1 + 1, 1, [.int .i64 k, .int .i64 c, .int .i64 q, .string z, .slice a n cap], rfl, fun h => ?_, rfl, ?_, ?_⟩, hx⟩
    · have := HS.out _ h; omega
    · exact cells_new _ _ _ _ (by simp)
    · exact RefT.kept (hx.but S) (fun _ h => .inl h) HR.out
end Go.Proofs.YtlcnicgjlddldaaDoor
