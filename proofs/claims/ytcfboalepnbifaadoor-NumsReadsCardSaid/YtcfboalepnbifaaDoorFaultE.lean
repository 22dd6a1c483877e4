/- fault.Code: of nothing OK; of a fault its first code. -/
import Derived.Test.YtcfboalepnbifaaDoorFaultD
namespace Go.Proofs.YtcfboalepnbifaaDoor
open Go Go.RowKit Go.Extern

theorem Code_idle (p : Addr) (w : World) :
    CallsD Tryd.prog 33 #[.pointer (some p)] .returning w fun e u' w' => e = .returned (.tuple #[]) ∧ u' = .returning ∧ w' = w := by
  refine callsD_of_wpS Tryd.func33 rfl fun c₀ cs hu => ?_
  apply wpS_seq
  apply wpS_region
  simp [wpOpsS, go_sem, recoverD, hu, Tryd.ntmps33, Exit.thenS]
  refine wpS_cond (t := false) (by simp [Act.eval, Array.replicate]) ?_
  simp only [Bool.false_eq_true, if_false]
  refine wpS_of_wp (wp_skip ?_)
  cases c₀
  simp_all [bodyPostS, results, Tryd.results33]

set_option maxHeartbeats 1000000 in
set_option maxRecDepth 100000 in
theorem Code_nil (w : World) : Calls Tryd.prog 21 #[.nilIface] w fun e w' => e = .returned (.int .i64 0) ∧ Ext w w' := by
  have hmf : ∀ (fn : Fn) (first cap : Array Value) (w : World), (Instr.makeFunc fn first cap).run Tryd.prog w = .ok (.func fn first cap) w := fun _ _ _ _ => rfl
  go_enter_defers Tryd.func21, Tryd.ntmps21
  go_wp2_with (go_at_call 32; refine (ends_nil _).mono ?_)
  rintro e w1 ⟨rfl, hx1⟩
  have c0 : w1.cell? ⟨w.heap.size, 0, none⟩ = some (.int .i64 0) := hx1.cell (by simp)
  have f0 : w1.frozen? ⟨w.heap.size, 0, none⟩ = false := (hx1.frozen (by simp)).trans (by simp)
  go_wp2_with (go_at_call 34; refine (As_nil _ _).mono ?_)
  rintro e w2 ⟨rfl, rfl⟩
  go_wp2
  refine leaves_cons (f := 33) (args := #[.pointer (some ⟨w.heap.size, 0, none⟩)]) (by simp) (by simp [go_sem]) ?_
  refine (Code_idle ⟨w.heap.size, 0, none⟩ _).mono ?_
  rintro e u' w'' ⟨rfl, rfl, rfl⟩
  simp [Leaves, settle, results, Tryd.results21, go_sem, c0]
  exact (Ext.trans ((Ext.refl w).alloc _) hx1).setCell (Nat.le_refl _) _

set_option maxHeartbeats 1000000 in
set_option maxRecDepth 100000 in
theorem Code_rep (t : Tr) (v : Value) (w : World) (hg : ErrType w) (hr : Rep w t v) : Calls Tryd.prog 21 #[v] w fun e w' => e = .returned (.int .i64 t.codeOf) ∧ Ext w w' := by
  have hmf : ∀ (fn : Fn) (first cap : Array Value) (w : World), (Instr.makeFunc fn first cap).run Tryd.prog w = .ok (.func fn first cap) w := fun _ _ _ _ => rfl
  obtain ⟨u, x, rfl⟩ := hr.form
  have hx0 : Ext w (w.alloc (.cells #[.int .i64 0] 28)) := (Ext.refl w).alloc _
  have HR := Lib.hid (And.intro (hr.ext hx0) (hg.ext hx0))
  clear hr hg
  go_enter_defers Tryd.func21, Tryd.ntmps21
  go_wp2_with (go_at_call 32; refine (ends_rep _ HR.out.1).mono ?_)
  rintro e w1 ⟨rfl, hx1⟩
  have c0 : w1.cell? ⟨w.heap.size, 0, none⟩ = some (.int .i64 0) := hx1.cell (by simp)
  have f0 : w1.frozen? ⟨w.heap.size, 0, none⟩ = false := (hx1.frozen (by simp)).trans (by simp)
  have HC := Lib.hid (And.intro c0 f0)
  clear c0 f0
  go_wp2_with (go_at_call 34; refine (As_rep t _ ⟨w.heap.size, 0, none⟩ _ _ (HR.out.2.ext hx1) (HR.out.1.ext hx1) HC.out.1 HC.out.2).mono ?_)
  rintro e w2 ⟨rfl, w3, hx3, rfl⟩
  have c3 := hx3.cell HC.out.1
  have f3 := (hx3.frozen (lt_of_cell HC.out.1)).trans HC.out.2
  go_wp2
  refine leaves_cons (f := 33) (args := #[.pointer (some ⟨w.heap.size, 0, none⟩)]) (by simp) (by simp [go_sem]) ?_
  refine (Code_idle ⟨w.heap.size, 0, none⟩ _).mono ?_
  rintro e u' w'' ⟨rfl, rfl, rfl⟩
  simp [Leaves, settle, results, Tryd.results21, go_sem, c3]
  exact (((hx0.trans hx1).trans hx3).setCell (Nat.le_refl _) _).setCell (Nat.le_refl _) _
end Go.Proofs.YtcfboalepnbifaaDoor
