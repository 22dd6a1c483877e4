/- errors.As at the target, and fault.Code. · fault.Code: of nothing OK; of a fault its first code. · What is around a fault: the iterator's contract. · fault.Place and fault.Path. -/
import Derived.Test.YtcmllaeihnmkkaaDoorU5
import Derived.Defers
import Derived.Recover
import Derived.RangeFuncNested
import Derived.RangeFuncBound
import Derived.RangeFuncCalls
import Derived.RangeFuncLeaves
import Derived.Shelf.Abstract
import Derived.Shelf.RegionOpen
import Derived.OwnWalkIn
import Derived.TacticsInMore
import Derived.LoopNIn
import Derived.LoopIn
import Derived.Sort.LoopGhostIn
import Derived.RangeFuncFrom
namespace Go.Proofs.YtcmllaeihnmkkaaDoor
open Go Go.RowKit Go.Extern
attribute [local go_sem] callValueOf callType callIsNil callKind callTElem callImplements
attribute [local go_sem] valueOfT typeT methodKind methodElem methodImplements kindT kindE elemTypeT implementsE

theorem As_nil (t : Value) (w : World) : Calls Tryd.prog 65 #[.nilIface, t] w fun e w' => e = .returned (.bool false) ∧ w' = w := by
  go_enter Tryd.func65, Tryd.ntmps65
  go_wp2
  go_ret
  exact ⟨rfl, rfl⟩

set_option maxHeartbeats 4000000 in
set_option maxRecDepth 100000 in
theorem As_rep (t : Tr) (v : Value) (ta : Addr) (old : Value) (w : World) (hg : ErrType w) (hr : Rep w t v) (ht : w.cell? ta = some old) (hf : w.frozen? ta = false) :
    Calls Tryd.prog 65 #[v, .iface 100 (.pointer (some ta))] w fun e w' => e = .returned (.bool true) ∧ ∃ w1, Ext w w1 ∧ w' = w1.setCell ta (.int .i64 t.codeOf) := by
  obtain ⟨u, x, rfl⟩ := hr.form
  have n8 := isNilT ⟨w.heap.size, 0, none⟩ ta ((w.alloc (.cells #[.pointer (some ta)] 100)).alloc (.cells #[.pointer (some ⟨2, 100, none⟩), .pointer (some ⟨w.heap.size, 0, none⟩), .int .u64 150] 150)) (by simp)
  have hx : Ext w ((w.alloc (.cells #[.pointer (some ta)] 100)).alloc (.cells #[.pointer (some ⟨2, 100, none⟩), .pointer (some ⟨w.heap.size, 0, none⟩), .int .u64 150] 150)) := ((Ext.refl w).alloc _).alloc _
  have hg2 : ((w.alloc (.cells #[.pointer (some ta)] 100)).alloc (.cells #[.pointer (some ⟨2, 100, none⟩), .pointer (some ⟨w.heap.size, 0, none⟩), .int .u64 150] 150)).cell? ⟨0, 0, none⟩ = some (.iface 179 (.agg #[.pointer (some ⟨2, 43, none⟩)])) := hg.ext hx
  have HR := Lib.hid (And.intro (hr.ext hx) (And.intro (hx.cell ht) ((hx.frozen (lt_of_cell ht)).trans hf)))
  have HX := Lib.hid hx
  clear hr ht hf hx hg
  go_enter Tryd.func65, Tryd.ntmps65
  go_wp2_with (go_at_call 117; refine (as_rep _ t _ ⟨w.heap.size, 0, none⟩ ta old _ (Nat.le_refl _) HR.out.1 (by simp) HR.out.2.1 HR.out.2.2).mono ?_)
  rintro e w2 ⟨rfl, w1, hx1, rfl⟩
  go_wp2
  go_ret
  exact ⟨rfl, w1, HX.out.trans hx1, rfl⟩
end Go.Proofs.YtcmllaeihnmkkaaDoor
namespace Go.Proofs.YtcmllaeihnmkkaaDoor
open Go Go.RowKit Go.Extern

theorem Code_idle (p : Addr) (w : World) :
    CallsD Tryd.prog 64 #[.pointer (some p)] .returning w fun e u' w' => e = .returned (.tuple #[]) ∧ u' = .returning ∧ w' = w := by
  refine callsD_of_wpS Tryd.func64 rfl fun c₀ cs hu => ?_
  apply wpS_seq
  apply wpS_region
  simp [wpOpsS, go_sem, recoverD, hu, Tryd.ntmps64, Exit.thenS]
  refine wpS_cond (t := false) (by simp [Act.eval, Array.replicate]) ?_
  simp only [Bool.false_eq_true, if_false]
  refine wpS_of_wp (wp_skip ?_)
  cases c₀
  simp_all [bodyPostS, results, Tryd.results64]

set_option maxHeartbeats 1000000 in
set_option maxRecDepth 100000 in
theorem Code_nil (w : World) : Calls Tryd.prog 20 #[.nilIface] w fun e w' => e = .returned (.int .i64 0) ∧ Ext w w' := by
  have hmf : ∀ (fn : Fn) (first cap : Array Value) (w : World), (Instr.makeFunc fn first cap).run Tryd.prog w = .ok (.func fn first cap) w := fun _ _ _ _ => rfl
  go_enter_defers Tryd.func20, Tryd.ntmps20
  go_wp2_with (go_at_call 63; refine (ends_nil _).mono ?_)
  rintro e w1 ⟨rfl, hx1⟩
  have c0 : w1.cell? ⟨w.heap.size, 0, none⟩ = some (.int .i64 0) := hx1.cell (by simp)
  have f0 : w1.frozen? ⟨w.heap.size, 0, none⟩ = false := (hx1.frozen (by simp)).trans (by simp)
  go_wp2_with (go_at_call 65; refine (As_nil _ _).mono ?_)
  rintro e w2 ⟨rfl, rfl⟩
  go_wp2
  refine leaves_cons (f := 64) (args := #[.pointer (some ⟨w.heap.size, 0, none⟩)]) (by simp) (by simp [go_sem]) ?_
  refine (Code_idle ⟨w.heap.size, 0, none⟩ _).mono ?_
  rintro e u' w'' ⟨rfl, rfl, rfl⟩
  simp [Leaves, settle, results, Tryd.results20, go_sem, c0]
  exact (Ext.trans ((Ext.refl w).alloc _) hx1).setCell (Nat.le_refl _) _

set_option maxHeartbeats 1000000 in
set_option maxRecDepth 100000 in
theorem Code_rep (t : Tr) (v : Value) (w : World) (hg : ErrType w) (hr : Rep w t v) : Calls Tryd.prog 20 #[v] w fun e w' => e = .returned (.int .i64 t.codeOf) ∧ Ext w w' := by
  have hmf : ∀ (fn : Fn) (first cap : Array Value) (w : World), (Instr.makeFunc fn first cap).run Tryd.prog w = .ok (.func fn first cap) w := fun _ _ _ _ => rfl
  obtain ⟨u, x, rfl⟩ := hr.form
  have hx0 : Ext w (w.alloc (.cells #[.int .i64 0] 34)) := (Ext.refl w).alloc _
  have HR := Lib.hid (And.intro (hr.ext hx0) (hg.ext hx0))
  clear hr hg
  go_enter_defers Tryd.func20, Tryd.ntmps20
  go_wp2_with (go_at_call 63; refine (ends_rep _ HR.out.1).mono ?_)
  rintro e w1 ⟨rfl, hx1⟩
  have c0 : w1.cell? ⟨w.heap.size, 0, none⟩ = some (.int .i64 0) := hx1.cell (by simp)
  have f0 : w1.frozen? ⟨w.heap.size, 0, none⟩ = false := (hx1.frozen (by simp)).trans (by simp)
  have HC := Lib.hid (And.intro c0 f0)
  clear c0 f0
  go_wp2_with (go_at_call 65; refine (As_rep t _ ⟨w.heap.size, 0, none⟩ _ _ (HR.out.2.ext hx1) (HR.out.1.ext hx1) HC.out.1 HC.out.2).mono ?_)
  rintro e w2 ⟨rfl, w3, hx3, rfl⟩
  have c3 := hx3.cell HC.out.1
  have f3 := (hx3.frozen (lt_of_cell HC.out.1)).trans HC.out.2
  go_wp2
  refine leaves_cons (f := 64) (args := #[.pointer (some ⟨w.heap.size, 0, none⟩)]) (by simp) (by simp [go_sem]) ?_
  refine (Code_idle ⟨w.heap.size, 0, none⟩ _).mono ?_
  rintro e u' w'' ⟨rfl, rfl, rfl⟩
  simp [Leaves, settle, results, Tryd.results20, go_sem, c3]
  exact (((hx0.trans hx1).trans hx3).setCell (Nat.le_refl _) _).setCell (Nat.le_refl _) _
end Go.Proofs.YtcmllaeihnmkkaaDoor
namespace Go.Proofs.YtcmllaeihnmkkaaDoor
open Go Go.RowKit Go.Shelf
attribute [local go_sem] Oper.semAt_some
attribute [local go_sem] ta_E_E ta_E_P ta_E_W ta_E_R ta_P_E ta_P_P ta_P_W ta_P_R ta_W_E ta_W_P ta_W_W ta_W_R ta_R_E ta_R_P ta_R_W ta_R_R

theorem wpIn_scope {n : Nat} {P : Program} {c : Code} {Q : Exit → Act → World → Prop} {a : Act} {w : World} (h : c.wpIn Fence.wide n P (Exit.noGoto Q) a w) : (Code.scope c).wpIn Fence.wide n P Q a w :=
  wpIn_wide.2 (wp_scope_straight (wpIn_wide.1 h))

/-- A part of what is around a fault, down to its code. -/
inductive Part where
  | code (c : Int)
  | place (p : Int) (u : TypeId) (x : Value)
  | word (s : ByteArray) (u : TypeId) (x : Value)
  | row (r : Nat)
def Part.val : Part → Value
  | .code c => .iface 34 (.int .i64 c)
  | .place p u x => .iface 143 (.agg #[.iface u x, .int .i64 p, .bool false])
  | .word s u x => .iface 145 (.agg #[.iface u x, .string s, .bool false])
  | .row r => .iface 146 (.pointer (some ⟨r, 0, none⟩))

/-- The parts from an error on, inwards. -/
def Spine (w : World) : Value → List Part → Prop
  | v, [] => v = .nilIface
  | v, .code c :: rest => v = (Part.code c).val ∧ rest = []
  | v, .place p u x :: rest => v = (Part.place p u x).val ∧ Spine w (.iface u x) rest
  | v, .word s u x :: rest => v = (Part.word s u x).val ∧ Spine w (.iface u x) rest
  | v, .row r :: rest => v = (Part.row r).val ∧ ∃ b off cap ts u x, w.cell? ⟨r, 0, none⟩ = some (.slice (some ⟨b, off, none⟩) ts.length cap) ∧ 1 ≤ ts.length ∧ ts.length ≤ 1000000 ∧ RepAll w b off ts ∧ w.cell? ⟨b, off, none⟩ = some (.iface u x) ∧ Spine w (.iface u x) rest
theorem Spine.ext {w w' : World} (hx : Ext w w') : ∀ {l : List Part} {v : Value}, Spine w v l → Spine w' v l
  | [], _, h => h
  | .code _ :: _, _, h => h
  | .place _ _ _ :: _, _, ⟨e, h⟩ => ⟨e, Spine.ext hx h⟩
  | .word _ _ _ :: _, _, ⟨e, h⟩ => ⟨e, Spine.ext hx h⟩
  | .row _ :: _, _, ⟨e, b, off, cap, ts, u, x, h0, h1, h2, h3, h4, h⟩ => ⟨e, b, off, cap, ts, u, x, hx.cell h0, h1, h2, h3.ext hx, hx.cell h4, Spine.ext hx h⟩

end Go.Proofs.YtcmllaeihnmkkaaDoor
namespace Go.Proofs.YtcmllaeihnmkkaaDoor
open Go Go.RowKit Go.Shelf
attribute [local go_sem] Oper.semAt_some
attribute [local go_sem] ta_E_E ta_E_P ta_E_W ta_E_R ta_P_E ta_P_P ta_P_W ta_P_R ta_W_E ta_W_P ta_W_W ta_W_R ta_R_E ta_R_P ta_R_W ta_R_R

theorem Spine.form {w : World} {v : Value} {l : List Part} (h : Spine w v l) : v = .nilIface ∨ ∃ u x, v = .iface u x := by
  cases l with
  | nil => exact .inl h
  | cons x l => cases x <;> exact .inr ⟨_, _, h.1⟩

def placeSum : List Part → Int := List.foldl (fun s x => match x with | .place p _ _ => wrap64 (s + p) | _ => s) 0
def placeIs : List Part → Bool := List.foldl (fun s x => match x with | .place _ _ _ => true | _ => s) false

theorem placeSum_snoc (pre : List Part) (x : Part) : placeSum (pre ++ [x]) = match x with | .place p _ _ => wrap64 (placeSum pre + p) | _ => placeSum pre := by
  simp only [placeSum, List.foldl_append, List.foldl_cons, List.foldl_nil]
theorem placeIs_snoc (pre : List Part) (x : Part) : placeIs (pre ++ [x]) = match x with | .place _ _ _ => true | _ => placeIs pre := by
  simp only [placeIs, List.foldl_append, List.foldl_cons, List.foldl_nil]

theorem cell_of_box1 {W : World} {B : Nat} {v : Value} {t : TypeId} (h : W.heap[B]? = some (.cells #[v] t (0, 0))) : W.cell? ⟨B, 0, none⟩ = some v ∧ W.frozen? ⟨B, 0, none⟩ = false := by
  constructor <;> simp [World.cell?, World.frozen?, h]
theorem cell_new1 (W : World) (v : Value) (t : TypeId) : (W.alloc (.cells #[v] t)).cell? ⟨W.heap.size, 0, none⟩ = some v ∧ (W.alloc (.cells #[v] t)).frozen? ⟨W.heap.size, 0, none⟩ = false :=
  cell_of_box1 (World.alloc_heap_new W _)
theorem cell_alloc1 {W : World} {a : Addr} {v : Value} (o : Obj) (h : W.cell? a = some v) : (W.alloc o).cell? a = some v := cell_kept h (World.grownBy_alloc W o none) (fun r e => by cases e)
theorem frozen_alloc1 {W : World} {a : Addr} {v : Value} (o : Obj) (h : W.cell? a = some v) (hf : W.frozen? a = false) : (W.alloc o).frozen? a = false := (frozen_kept h (World.grownBy_alloc W o none) (fun r e => by cases e)).trans hf

/-- Two boxes written. -/
theorem two_cells {W : World} {A : Nat} {v0 v1 : Value} (hc : W.cell? ⟨A, 0, none⟩ = some v0) (hf : W.frozen? ⟨A, 0, none⟩ = false) (hc1 : W.cell? ⟨A + 1, 0, none⟩ = some v1) (hf1 : W.frozen? ⟨A + 1, 0, none⟩ = false) (x y : Value) :
    ((W.setCell ⟨A, 0, none⟩ x).setCell ⟨A + 1, 0, none⟩ y).cell? ⟨A, 0, none⟩ = some x ∧ ((W.setCell ⟨A, 0, none⟩ x).setCell ⟨A + 1, 0, none⟩ y).frozen? ⟨A, 0, none⟩ = false ∧
    ((W.setCell ⟨A, 0, none⟩ x).setCell ⟨A + 1, 0, none⟩ y).cell? ⟨A + 1, 0, none⟩ = some y ∧ ((W.setCell ⟨A, 0, none⟩ x).setCell ⟨A + 1, 0, none⟩ y).frozen? ⟨A + 1, 0, none⟩ = false := by
  have n1 : (⟨A + 1, 0, none⟩ : Addr) ≠ ⟨A, 0, none⟩ := fun e => by injection e; omega
  have n2 : (⟨A, 0, none⟩ : Addr) ≠ ⟨A + 1, 0, none⟩ := fun e => by injection e; omega
  refine ⟨?_, ?_, ?_, ?_⟩
  · rw [World.cell?_setCell_other _ _ _ _ n1]; exact World.cell?_setCell_same' _ _ _ (by rw [hc]; rfl)
  · rw [World.frozen?_setCell, World.frozen?_setCell]; exact hf
  · exact World.cell?_setCell_same' _ _ _ (by rw [World.cell?_setCell_other _ _ _ _ n2, hc1]; rfl)
  · rw [World.frozen?_setCell, World.frozen?_setCell]; exact hf1

end Go.Proofs.YtcmllaeihnmkkaaDoor
