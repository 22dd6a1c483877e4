/- fault.Is: of nothing: is the code OK?; of a fault: is it one of its codes? -/
import Derived.Test.YtcfboalepnbifaaDoorFaultF
import Derived.Test.YtcfboalepnbifaaDoorFaultE
namespace Go.Proofs.YtcfboalepnbifaaDoor
open Go Go.RowKit Go.Extern
attribute [local go_sem] eqlEE eqlPE eqlWE eqlRE methodComparable callComparableE callTypeOf typeOfE

theorem is_rep (d : Int) : ∀ (n : Nat) (t : Tr) (v : Value) (w : World), t.sz ≤ n → Rep w t v →
      Calls Tryd.prog 49 #[v, .iface 28 (.int .i64 d), .bool true] w fun e w' => e = .returned (.bool (t.has d)) ∧ Ext w w' := by
  intro n
  induction n using Nat.strongRecOn with
  | ind n ih =>
    intro t v w hn hr
    exact is_loop d n (fun m t v w hm h1 h2 => ih m hm t v w h1 h2) t v w hn hr

set_option maxHeartbeats 1000000 in
set_option maxRecDepth 100000 in
theorem errorsIs_rep (t : Tr) (v : Value) (d : Int) (w : World) (hr : Rep w t v) :
    Calls Tryd.prog 38 #[v, .iface 28 (.int .i64 d)] w fun e w' => e = .returned (.bool (t.has d)) ∧ Ext w w' := by
  obtain ⟨u, x, rfl⟩ := hr.form
  have HR := Lib.hid hr; clear hr
  go_enter Tryd.func38, Tryd.ntmps38
  go_wp2_with (go_at_call 49; refine (is_rep d _ t _ _ (Nat.le_refl _) HR.out).mono ?_)
  rintro e w1 ⟨rfl, hx⟩
  go_wp2
  go_ret
  exact ⟨rfl, hx⟩

theorem Is_idle (p : Addr) (w : World) :
    CallsD Tryd.prog 37 #[.pointer (some p)] .returning w fun e u' w' => e = .returned (.tuple #[]) ∧ u' = .returning ∧ w' = w := by
  refine callsD_of_wpS Tryd.func37 rfl fun c₀ cs hu => ?_
  apply wpS_seq
  apply wpS_region
  simp [wpOpsS, go_sem, recoverD, hu, Tryd.ntmps37, Exit.thenS]
  refine wpS_cond (t := false) (by simp [Act.eval, Array.replicate]) ?_
  simp only [Bool.false_eq_true, if_false]
  refine wpS_of_wp (wp_skip ?_)
  cases c₀
  simp_all [bodyPostS, results, Tryd.results37]

set_option maxHeartbeats 1000000 in
set_option maxRecDepth 100000 in
theorem Is_nil (c : Int) (w : World) : Calls Tryd.prog 25 #[.nilIface, .int .i64 c] w fun e w' => e = .returned (.bool (decide (c = 0))) ∧ Ext w w' := by
  by_cases hc : c = 0
  · subst hc
    go_enter_defers Tryd.func25, Tryd.ntmps25
    go_wp2
    exact ⟨.bool true, by simp [results, Tryd.results25, go_sem], by simp, (Ext.refl w).alloc _⟩
  · have hd : (c == 0) = false := by simpa using hc
    have HC := Lib.hid hc; clear hc
    go_enter_defers Tryd.func25, Tryd.ntmps25
    go_wp2
    exact ⟨.bool false, by simp [results, Tryd.results25, go_sem], by simp [HC.out], (Ext.refl w).alloc _⟩

set_option maxHeartbeats 1000000 in
set_option maxRecDepth 100000 in
theorem Is_rep (t : Tr) (v : Value) (d : Int) (w : World) (hr : Rep w t v) : Calls Tryd.prog 25 #[v, .int .i64 d] w fun e w' => e = .returned (.bool (t.has d)) ∧ Ext w w' := by
  have hmf : ∀ (fn : Fn) (first cap : Array Value) (w : World), (Instr.makeFunc fn first cap).run Tryd.prog w = .ok (.func fn first cap) w := fun _ _ _ _ => rfl
  obtain ⟨u, x, rfl⟩ := hr.form
  have hx0 : Ext w (w.alloc (.cells #[.bool false] 4)) := (Ext.refl w).alloc _
  have HR := Lib.hid (hr.ext hx0)
  clear hr
  go_enter_defers Tryd.func25, Tryd.ntmps25
  go_wp2_with (go_at_call 32; refine (ends_rep _ HR.out).mono ?_)
  rintro e w1 ⟨rfl, hx1⟩
  go_wp2_with (go_at_call 38; refine (errorsIs_rep t _ d _ (HR.out.ext hx1)).mono ?_)
  rintro e w2 ⟨rfl, hx2⟩
  have c0 : w2.cell? ⟨w.heap.size, 0, none⟩ = some (.bool false) := hx2.cell (hx1.cell (by simp))
  have f0 : w2.frozen? ⟨w.heap.size, 0, none⟩ = false := (hx2.frozen (lt_of_cell (hx1.cell (v := .bool false) (by simp)))).trans ((hx1.frozen (by simp)).trans (by simp))
  go_wp2
  refine leaves_cons (f := 37) (args := #[.pointer (some ⟨w.heap.size, 0, none⟩)]) (by simp) (by simp [go_sem]) ?_
  refine (Is_idle ⟨w.heap.size, 0, none⟩ _).mono ?_
  rintro e u' w'' ⟨rfl, rfl, rfl⟩
  simp [Leaves, settle, results, Tryd.results25, go_sem, c0]
  exact ((hx0.trans hx1).trans hx2).setCell (Nat.le_refl _) _
end Go.Proofs.YtcfboalepnbifaaDoor
