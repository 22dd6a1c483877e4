/- wrapped, first: the step inwards. -/
import Derived.Test.YtcfboalepnbifaaDoorFaultC
import Derived.Defers
import Derived.Recover
namespace Go.Proofs.YtcfboalepnbifaaDoor
open Go Go.RowKit Go.Extern
theorem ta_P_w1 (v : Value) (w : World) : (Instr.typeAssert (.iface 65 v) 40 100 true).run Tryd.prog w = .ok (.tuple #[.iface 65 v, .bool true]) w := run_typeAssert_hasB Tryd.underlying100 (by kernel_rfl) v 40 w
theorem ta_W_w1 (v : Value) (w : World) : (Instr.typeAssert (.iface 78 v) 40 100 true).run Tryd.prog w = .ok (.tuple #[.iface 78 v, .bool true]) w := run_typeAssert_hasB Tryd.underlying100 (by kernel_rfl) v 40 w
theorem ta_R_w1 (v : Value) (w : World) : (Instr.typeAssert (.iface 79 v) 40 100 true).run Tryd.prog w = .ok (.tuple #[.nilIface, .bool false]) w := run_typeAssert_lacksB Tryd.underlying100 (by kernel_rfl) (by kernel_rfl) v 40 w
theorem ta_R_wN (v : Value) (w : World) : (Instr.typeAssert (.iface 79 v) 40 102 true).run Tryd.prog w = .ok (.tuple #[.iface 79 v, .bool true]) w := run_typeAssert_hasB Tryd.underlying102 (by kernel_rfl) v 40 w
attribute [local go_sem] ta_P_w1 ta_W_w1 ta_R_w1 ta_R_wN unwrapP unwrapW unwrapR

theorem alloc_at (w : World) (cs : Array Value) (T : TypeId) (k : Nat) (hk : k = w.heap.size) {j : Nat} : (w.alloc (.cells cs T)).cell? ⟨k, j, none⟩ = cs[j]? := by
  subst hk; exact Lib.cell_of_heap (Go.heap_alloc_new _ _) j

theorem wrapped_idle (p : Addr) (w : World) :
    CallsD Tryd.prog 50 #[.pointer (some p)] .returning w fun e u' w' => e = .returned (.tuple #[]) ∧ u' = .returning ∧ w' = w := by
  refine callsD_of_wpS Tryd.func50 rfl fun c₀ cs hu => ?_
  apply wpS_seq
  apply wpS_region
  simp [wpOpsS, go_sem, recoverD, hu, Tryd.ntmps50, Exit.thenS]
  refine wpS_cond (t := false) (by simp [Act.eval, Array.replicate]) ?_
  simp only [Bool.false_eq_true, if_false]
  refine wpS_of_wp (wp_skip ?_)
  cases c₀
  simp_all [bodyPostS, results, Tryd.results50]

set_option maxHeartbeats 1000000 in
set_option maxRecDepth 100000 in
theorem wrapped_placed (u : TypeId) (x : Value) (p : Int) (bb : Bool) (w : World) :
    Calls Tryd.prog 43 #[.iface 65 (.agg #[.iface u x, .int .i64 p, .bool bb])] w fun e w' => ∃ g, e = .returned (.slice (some ⟨g, 0, none⟩) 1 1) ∧ Ext w w' ∧ w'.cell? ⟨g, 0, none⟩ = some (.iface u x) := by
  have hmf : ∀ (fn : Fn) (first cap : Array Value) (w : World), (Instr.makeFunc fn first cap).run Tryd.prog w = .ok (.func fn first cap) w := fun _ _ _ _ => rfl
  go_enter_defers Tryd.func43, Tryd.ntmps43
  go_wp2_with fail
  refine (placed_Unwrap _ _ _ _ _).mono ?_
  rintro e w1 ⟨rfl, hx1⟩
  have hx2 : Ext (w.alloc (.cells #[.slice none 0 0] 80)) (w1.alloc (.cells #[.iface u x] 40)) := hx1.alloc _
  have c0 : (w1.alloc (.cells #[.iface u x] 40)).cell? ⟨w.heap.size, 0, none⟩ = some (.slice none 0 0) := hx2.cell (by simp)
  have f0 : (w1.alloc (.cells #[.iface u x] 40)).frozen? ⟨w.heap.size, 0, none⟩ = false := (hx2.frozen (by simp)).trans (by simp)
  have hlt : w.heap.size < w1.heap.size := by have := hx1.size; simp at this; omega
  go_wp2
  refine leaves_cons (f := 50) (args := #[.pointer (some ⟨w.heap.size, 0, none⟩)]) (by simp) (by simp [go_sem]) ?_
  refine (wrapped_idle ⟨w.heap.size, 0, none⟩ _).mono ?_
  rintro e u' w'' ⟨rfl, rfl, rfl⟩
  have c1 : w1.cell? ⟨w.heap.size, 0, none⟩ = some (.slice none 0 0) := hx1.cell (by simp)
  have hs0 := World.cell?_setCell_same' w1 ⟨w.heap.size, 0, none⟩ (.slice (some ⟨w1.heap.size, 0, none⟩) 1 1) (by rw [c1]; rfl)
  have hx3 : Ext w (w1.setCell ⟨w.heap.size, 0, none⟩ (.slice (some ⟨w1.heap.size, 0, none⟩) 1 1)) := (Ext.trans ((Ext.refl w).alloc _) hx1).setCell (p := ⟨w.heap.size, 0, none⟩) (Nat.le_refl _) _
  have hs := ((Ext.refl (w1.setCell ⟨w.heap.size, 0, none⟩ (.slice (some ⟨w1.heap.size, 0, none⟩) 1 1))).alloc (.cells #[.iface u x] 40)).cell hs0
  have hz : (w1.setCell ⟨w.heap.size, 0, none⟩ (.slice (some ⟨w1.heap.size, 0, none⟩) 1 1)).heap.size = w1.heap.size := by simp [World.setCell]
  have hn : ((w1.setCell ⟨w.heap.size, 0, none⟩ (.slice (some ⟨w1.heap.size, 0, none⟩) 1 1)).alloc (.cells #[.iface u x] 40)).cell? ⟨w1.heap.size, 0, none⟩ = some (.iface u x) := by
    rw [alloc_at _ _ _ _ hz.symm]; rfl
  exact ⟨.slice (some ⟨w1.heap.size, 0, none⟩) 1 1, by simp [results, Tryd.results43, go_sem, hs], w1.heap.size, rfl, hx3.alloc _, hn⟩

set_option maxHeartbeats 1000000 in
set_option maxRecDepth 100000 in
theorem wrapped_worded (u : TypeId) (x : Value) (s : ByteArray) (bb : Bool) (w : World) :
    Calls Tryd.prog 43 #[.iface 78 (.agg #[.iface u x, .string s, .bool bb])] w fun e w' => ∃ g, e = .returned (.slice (some ⟨g, 0, none⟩) 1 1) ∧ Ext w w' ∧ w'.cell? ⟨g, 0, none⟩ = some (.iface u x) := by
  have hmf : ∀ (fn : Fn) (first cap : Array Value) (w : World), (Instr.makeFunc fn first cap).run Tryd.prog w = .ok (.func fn first cap) w := fun _ _ _ _ => rfl
  go_enter_defers Tryd.func43, Tryd.ntmps43
  go_wp2_with fail
  refine (worded_Unwrap _ _ _ _ _).mono ?_
  rintro e w1 ⟨rfl, hx1⟩
  have hx2 : Ext (w.alloc (.cells #[.slice none 0 0] 80)) (w1.alloc (.cells #[.iface u x] 40)) := hx1.alloc _
  have c0 : (w1.alloc (.cells #[.iface u x] 40)).cell? ⟨w.heap.size, 0, none⟩ = some (.slice none 0 0) := hx2.cell (by simp)
  have f0 : (w1.alloc (.cells #[.iface u x] 40)).frozen? ⟨w.heap.size, 0, none⟩ = false := (hx2.frozen (by simp)).trans (by simp)
  have hlt : w.heap.size < w1.heap.size := by have := hx1.size; simp at this; omega
  go_wp2
  refine leaves_cons (f := 50) (args := #[.pointer (some ⟨w.heap.size, 0, none⟩)]) (by simp) (by simp [go_sem]) ?_
  refine (wrapped_idle ⟨w.heap.size, 0, none⟩ _).mono ?_
  rintro e u' w'' ⟨rfl, rfl, rfl⟩
  have c1 : w1.cell? ⟨w.heap.size, 0, none⟩ = some (.slice none 0 0) := hx1.cell (by simp)
  have hs0 := World.cell?_setCell_same' w1 ⟨w.heap.size, 0, none⟩ (.slice (some ⟨w1.heap.size, 0, none⟩) 1 1) (by rw [c1]; rfl)
  have hx3 : Ext w (w1.setCell ⟨w.heap.size, 0, none⟩ (.slice (some ⟨w1.heap.size, 0, none⟩) 1 1)) := (Ext.trans ((Ext.refl w).alloc _) hx1).setCell (p := ⟨w.heap.size, 0, none⟩) (Nat.le_refl _) _
  have hs := ((Ext.refl (w1.setCell ⟨w.heap.size, 0, none⟩ (.slice (some ⟨w1.heap.size, 0, none⟩) 1 1))).alloc (.cells #[.iface u x] 40)).cell hs0
  have hz : (w1.setCell ⟨w.heap.size, 0, none⟩ (.slice (some ⟨w1.heap.size, 0, none⟩) 1 1)).heap.size = w1.heap.size := by simp [World.setCell]
  have hn : ((w1.setCell ⟨w.heap.size, 0, none⟩ (.slice (some ⟨w1.heap.size, 0, none⟩) 1 1)).alloc (.cells #[.iface u x] 40)).cell? ⟨w1.heap.size, 0, none⟩ = some (.iface u x) := by
    rw [alloc_at _ _ _ _ hz.symm]; rfl
  exact ⟨.slice (some ⟨w1.heap.size, 0, none⟩) 1 1, by simp [results, Tryd.results43, go_sem, hs], w1.heap.size, rfl, hx3.alloc _, hn⟩


set_option maxHeartbeats 1000000 in
set_option maxRecDepth 100000 in
theorem wrapped_row (r b off cap : Nat) (ts : List Tr) (u : TypeId) (x : Value) (w : World) (h0 : w.cell? ⟨r, 0, none⟩ = some (.slice (some ⟨b, off, none⟩) ts.length cap)) (h1 : 1 ≤ ts.length) (hb : ts.length ≤ 1000000) (h : RepAll w b off ts) (hc : w.cell? ⟨b, off, none⟩ = some (.iface u x)) :
    Calls Tryd.prog 43 #[.iface 79 (.pointer (some ⟨r, 0, none⟩))] w fun e w' => ∃ g cap', e = .returned (.slice (some ⟨g, 0, none⟩) ts.length cap') ∧ Ext w w' ∧ w'.cell? ⟨g, 0, none⟩ = some (.iface u x) := by
  have hmf : ∀ (fn : Fn) (first cap : Array Value) (w : World), (Instr.makeFunc fn first cap).run Tryd.prog w = .ok (.func fn first cap) w := fun _ _ _ _ => rfl
  have hx0 : Ext w (w.alloc (.cells #[.slice none 0 0] 80)) := (Ext.refl w).alloc _
  have H := Lib.hid (And.intro (hx0.cell h0) (And.intro h1 (And.intro hb (And.intro (h.ext hx0) (hx0.cell hc))))); clear h0 h1 hb h hc
  go_enter_defers Tryd.func43, Tryd.ntmps43
  go_wp2_with fail
  refine (row_Unwrap2 r b off cap ts _ H.out.1 H.out.2.1 H.out.2.2.1 H.out.2.2.2.1).mono ?_
  rintro e w1 ⟨g, cap', rfl, hx1, hall, hkey⟩
  have hcg : w1.cell? ⟨g, 0, none⟩ = some (.iface u x) := hkey 0 _ (by have := H.out.2.1; omega) H.out.2.2.2.2
  clear hall hkey
  have c0 : w1.cell? ⟨w.heap.size, 0, none⟩ = some (.slice none 0 0) := hx1.cell (by simp)
  have f0 : w1.frozen? ⟨w.heap.size, 0, none⟩ = false := (hx1.frozen (by simp)).trans (by simp)
  have hne : g ≠ w.heap.size := by
    intro e; subst e; rw [c0] at hcg; cases hcg
  have HG := Lib.hid (And.intro hcg hne); clear hcg hne
  go_wp2
  refine leaves_cons (f := 50) (args := #[.pointer (some ⟨w.heap.size, 0, none⟩)]) (by simp) (by simp [go_sem]) ?_
  refine (wrapped_idle ⟨w.heap.size, 0, none⟩ _).mono ?_
  rintro e u' w'' ⟨rfl, rfl, rfl⟩
  have hs0 := World.cell?_setCell_same' w1 ⟨w.heap.size, 0, none⟩ (.slice (some ⟨g, 0, none⟩) ts.length cap') (by rw [c0]; rfl)
  refine ⟨.slice (some ⟨g, 0, none⟩) ts.length cap', by simp [results, Tryd.results43, go_sem, hs0], g, cap', rfl, (hx0.trans hx1).setCell (p := ⟨w.heap.size, 0, none⟩) (Nat.le_refl _) _, ?_⟩
  have hab : (⟨w.heap.size, 0, none⟩ : Addr) ≠ ⟨g, 0, none⟩ := fun e => HG.out.2 (by injection e with e1; exact e1.symm)
  exact (World.cell?_setCell_other _ _ _ _ hab).trans HG.out.1

/-! 'first': what an error wraps, of a row its first one. -/
set_option maxRecDepth 100000 in
theorem first_placed (u : TypeId) (x : Value) (p : Int) (bb : Bool) (w : World) : Calls Tryd.prog 41 #[.iface 65 (.agg #[.iface u x, .int .i64 p, .bool bb])] w fun e w' => e = .returned (.iface u x) ∧ Ext w w' := by
  go_enter Tryd.func41, Tryd.ntmps41
  go_wp2_with (go_at_call 43; refine (wrapped_placed _ _ _ _ _).mono ?_; rintro e w1 ⟨g, rfl, hx1, hc⟩)
  go_ret
  exact ⟨rfl, hx1⟩
set_option maxRecDepth 100000 in
theorem first_worded (u : TypeId) (x : Value) (s : ByteArray) (bb : Bool) (w : World) : Calls Tryd.prog 41 #[.iface 78 (.agg #[.iface u x, .string s, .bool bb])] w fun e w' => e = .returned (.iface u x) ∧ Ext w w' := by
  go_enter Tryd.func41, Tryd.ntmps41
  go_wp2_with (go_at_call 43; refine (wrapped_worded _ _ _ _ _).mono ?_; rintro e w1 ⟨g, rfl, hx1, hc⟩)
  go_ret
  exact ⟨rfl, hx1⟩
set_option maxRecDepth 100000 in
theorem first_row (r b off cap : Nat) (ts : List Tr) (u : TypeId) (x : Value) (w : World) (h0 : w.cell? ⟨r, 0, none⟩ = some (.slice (some ⟨b, off, none⟩) ts.length cap)) (h1 : 1 ≤ ts.length) (hb : ts.length ≤ 1000000) (h : RepAll w b off ts) (hc : w.cell? ⟨b, off, none⟩ = some (.iface u x)) : Calls Tryd.prog 41 #[.iface 79 (.pointer (some ⟨r, 0, none⟩))] w fun e w' => e = .returned (.iface u x) ∧ Ext w w' := by
  have H := Lib.hid (And.intro h0 (And.intro hb (And.intro h hc))); clear h0 hb h hc
  have hz : ((ts.length : Int) == 0) = false := by simp; intro e; subst e; simp at h1
  go_enter Tryd.func41, Tryd.ntmps41
  go_wp2_with (go_at_call 43; refine (wrapped_row r b off cap ts u x _ H.out.1 h1 H.out.2.1 H.out.2.2.1 H.out.2.2.2).mono ?_; rintro e w1 ⟨g, cap', rfl, hx1, hc⟩)
  go_ret
  exact ⟨rfl, hx1⟩
end Go.Proofs.YtcfboalepnbifaaDoor
