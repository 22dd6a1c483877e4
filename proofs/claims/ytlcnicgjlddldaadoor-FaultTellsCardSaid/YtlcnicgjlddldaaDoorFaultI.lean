/- What a code says, asked through its interface. -/
import Derived.Test.YtlcnicgjlddldaaDoorFaultH
import Derived.Defers
import Derived.Recover
import Derived.KernelRfl
namespace Go.Proofs.YtlcnicgjlddldaaDoor
open Go Go.RowKit
theorem methodErrorE (v : Value) (w : World) : (Go.method 291 35 v "Error").run Tryd.prog w = .ok (111, v) w := by kernel_rfl
attribute [local go_sem] methodErrorE

theorem said_idle (p : Addr) (w : World) :
    CallsD Tryd.prog 78 #[.pointer (some p)] .returning w fun e u' w' => e = .returned (.tuple #[]) ∧ u' = .returning ∧ w' = w := by
  refine callsD_of_wpS Tryd.func78 rfl fun c₀ cs hu => ?_
  apply wpS_seq
  apply wpS_region
  simp [wpOpsS, go_sem, recoverD, hu, Tryd.ntmps78, Exit.thenS]
  refine wpS_cond (t := false) (by simp [Act.eval, Array.replicate]) ?_
  simp only [Bool.false_eq_true, if_false]
  refine wpS_of_wp (wp_skip ?_)
  cases c₀
  simp_all [bodyPostS, results, Tryd.results78]

set_option maxHeartbeats 1000000 in
set_option maxRecDepth 100000 in
theorem said_code (c : Int) (w : World) (h0 : -9223372036854775808 ≤ c) (h1 : c ≤ 9223372036854775807) : Calls Tryd.prog 67 #[.iface 35 (.int .i64 c)] w fun e w' => e = .returned (.string ⟨(codeText c).toArray⟩) ∧ Ext w w' := by
  have hmf : ∀ (fn : Fn) (first cap : Array Value) (w : World), (Instr.makeFunc fn first cap).run Tryd.prog w = .ok (.func fn first cap) w := fun _ _ _ _ => rfl
  have H := Lib.hid (And.intro h0 h1); clear h0 h1
  go_enter_defers Tryd.func67, Tryd.ntmps67
  go_wp2_with (go_at_call 111; refine (error_code c _ H.out.1 H.out.2).mono ?_)
  rintro e w1 ⟨rfl, hx1⟩
  have c0 : w1.cell? ⟨w.heap.size, 0, none⟩ = some (.string ⟨#[]⟩) := hx1.cell (by simp)
  have f0 : w1.frozen? ⟨w.heap.size, 0, none⟩ = false := (hx1.frozen (by simp)).trans (by simp)
  go_wp2
  refine leaves_cons (f := 78) (args := #[.pointer (some ⟨w.heap.size, 0, none⟩)]) (by simp) (by simp [go_sem]) ?_
  refine (said_idle ⟨w.heap.size, 0, none⟩ _).mono ?_
  rintro e u' w'' ⟨rfl, rfl, rfl⟩
  simp [Leaves, settle, results, Tryd.results67, go_sem, c0]
  exact (Ext.trans ((Ext.refl w).alloc _) hx1).setCell (Nat.le_refl _) _
end Go.Proofs.YtlcnicgjlddldaaDoor
