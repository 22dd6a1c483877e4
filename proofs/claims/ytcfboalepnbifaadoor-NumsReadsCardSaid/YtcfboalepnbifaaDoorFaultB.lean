/- strange, ends at faults that trees describe. -/
import Derived.Test.YtcfboalepnbifaaDoorFaultA
import Derived.Test.YtcfboalepnbifaaDoorRep
import Derived.LoopTactic
import Derived.RegionTactic
import Derived.Deep.QuietTactic
import Derived.BigQuiet
namespace Go.Proofs.YtcfboalepnbifaaDoor
open Go.RowKit

theorem strange_rep {t : Tr} {v : Value} (w : World) (h : Rep w t v) : Calls Tryd.prog 42 #[v] w fun e w' => e = .returned (.bool false) ∧ Ext w w' := by
  cases t with
  | code c => obtain ⟨rfl, _⟩ := h; exact (strange_code _ _).mono fun e w' ⟨he, hw⟩ => ⟨he, by subst hw; exact Ext.refl _⟩
  | place p t => obtain ⟨u, x, rfl, _⟩ := h; exact (strange_placed _ _ _ _ _).mono fun e w' ⟨he, hw⟩ => ⟨he, hw⟩
  | word s t => obtain ⟨u, x, rfl, _⟩ := h; exact (strange_worded _ _ _ _ _).mono fun e w' ⟨he, hw⟩ => ⟨he, hw⟩
  | row ts => obtain ⟨r, b, off, cap, rfl, h0, h1, _⟩ := h; exact (strange_row _ _ _ h1).mono fun e w' ⟨he, hw⟩ => ⟨he, by subst hw; exact Ext.refl _⟩

set_option maxRecDepth 100000 in
theorem ends_plain (t : TypeId) (v : Value) (w : World)
    (hs : ∀ W : World, Ext w W → Calls Tryd.prog 42 #[.iface t v] W fun e w' => e = .returned (.bool false) ∧ Ext W w') :
    Calls Tryd.prog 32 #[.iface t v] w fun e w' => e = .returned (.bool true) ∧ Ext w w' := by
  go_enter Tryd.func32, Tryd.ntmps32
  go_wp2
  refine wp_loop_rounds 2 ?_
  rw [rounds_succ]
  go_wp2
  go_quiet (fail)
  go_wp2_with (first | (go_at_call 42; refine (hs _ ?_).mono ?_))
  · exact ((Ext.refl w).alloc _).drewN _
  rintro e w' ⟨rfl, hb⟩
  go_wp2
  rw [rounds_succ]
  go_wp2
  go_ret
  exact ⟨rfl, Ext.trans (((Ext.refl w).alloc _).drewN _) hb⟩
set_option maxRecDepth 100000 in
theorem ends_nil (w : World) :
    Calls Tryd.prog 32 #[.nilIface] w fun e w' => e = .returned (.bool true) ∧ Ext w w' := by
  go_enter Tryd.func32, Tryd.ntmps32
  go_wp2
  refine wp_loop_rounds 2 ?_
  rw [rounds_succ]
  go_wp2
  go_quiet (fail)
  go_wp2_with (first | (go_at_call 42; refine (strange_nil _).mono ?_))
  rintro e w' ⟨rfl, rfl⟩
  go_wp2
  rw [rounds_succ]
  go_wp2
  go_ret
  exact ⟨rfl, ((Ext.refl w).alloc _).drewN _⟩
theorem ends_rep {t : Tr} {v : Value} (w : World) (h : Rep w t v) : Calls Tryd.prog 32 #[v] w fun e w' => e = .returned (.bool true) ∧ Ext w w' := by
  obtain ⟨u, x, rfl⟩ := h.form
  exact ends_plain u x w fun W hW => strange_rep W (h.ext hW)
end Go.Proofs.YtcfboalepnbifaaDoor
