/- Words of no program: Ext: what was there when the call began is as it was. · Only one block has turned. · Closed facts on type assertions of package fault's errors: by the dynamic type (nil, E: api.Errno, P: placed, W: worded, R: *row) and the asserted one. · The plain contracts of package fault: New, strange, At, In. -/
import Derived.WalkKit
import Derived.Below
import Derived.Deep.Draws
import Derived.Lib.Hide
import Derived.Test.YtcmllaeihnmkkaaDoorProg
import Derived.KernelRfl
namespace Go.Proofs.YtcmllaeihnmkkaaDoor
open Go Go.RowKit

/-- Nothing that was there has turned. -/
def Ext (w w' : World) : Prop := Below w.heap.size w w'
theorem Ext.refl (w : World) : Ext w w := Below.refl _ _
theorem Ext.size {w w' : World} (h : Ext w w') : w.heap.size ≤ w'.heap.size := Below.size h
theorem Ext.trans {a b c : World} (h : Ext a b) (k : Ext b c) : Ext a c := Below.trans h (Below.mono k h.size)
theorem Ext.drew {a w : World} (h : Ext a w) : Ext a w.drew := Below.drew h
theorem Ext.drewN {a w : World} (h : Ext a w) (n : Nat) : Ext a (w.drewN n) := Below.trans h ⟨rfl, rfl, rfl, Nat.le_refl _, fun _ _ => rfl⟩
theorem Ext.alloc {a w : World} (h : Ext a w) (o : Obj) : Ext a (w.alloc o) := Below.alloc h h.size o
theorem Ext.setCell {a w : World} (h : Ext a w) {p : Addr} (hp : a.heap.size ≤ p.block) (u : Value) : Ext a (w.setCell p u) := Below.setCell h hp u
theorem Ext.cell {w w' : World} (h : Ext w w') {p : Addr} {v : Value} (hc : w.cell? p = some v) : w'.cell? p = some v := by
  have hl : p.block < w.heap.size := by
    rcases Nat.lt_or_ge p.block w.heap.size with h | h
    · exact h
    · simp [World.cell?, Array.getElem?_eq_none h] at hc
  exact (Below.cell h hl).trans hc
theorem lt_of_cell {w : World} {p : Addr} {v : Value} (hc : w.cell? p = some v) : p.block < w.heap.size := by
  rcases Nat.lt_or_ge p.block w.heap.size with h | h
  · exact h
  · simp [World.cell?, Array.getElem?_eq_none h] at hc
theorem Ext.frozen {w w' : World} (h : Ext w w') {p : Addr} (hp : p.block < w.heap.size) : w'.frozen? p = w.frozen? p := Below.frozen h hp
theorem Ext.below {w w' : World} (h : Ext w w') : Below w.heap.size w w' := h
theorem Ext.of_below {w w' : World} (h : Below w.heap.size w w') : Ext w w' := h
end Go.Proofs.YtcmllaeihnmkkaaDoor
namespace Go.Proofs.YtcmllaeihnmkkaaDoor
open Go Go.RowKit

/-- Only block g may have turned. -/
structure Only (g : Nat) (w w' : World) : Prop where
  os : w'.os = w.os
  tape : w'.tape = w.tape
  output : w'.output = w.output
  size : w.heap.size ≤ w'.heap.size
  block : ∀ k, k ≠ g → k < w.heap.size → w'.heap[k]? = w.heap[k]?
theorem Only.refl (g : Nat) (w : World) : Only g w w := ⟨rfl, rfl, rfl, Nat.le_refl _, fun _ _ _ => rfl⟩
theorem Only.trans {g : Nat} {a b c : World} (h : Only g a b) (k : Only g b c) : Only g a c :=
  ⟨k.os.trans h.os, k.tape.trans h.tape, k.output.trans h.output, Nat.le_trans h.size k.size, fun i hi hl => (k.block i hi (Nat.lt_of_lt_of_le hl h.size)).trans (h.block i hi hl)⟩
theorem Only.drew {g : Nat} {a b : World} (h : Only g a b) : Only g a b.drew := ⟨h.os, h.tape, h.output, h.size, h.block⟩
theorem Only.setCell {g i : Nat} {a b : World} (h : Only g a b) (v : Value) : Only g a (b.setCell ⟨g, i, none⟩ v) :=
  ⟨h.os, h.tape, h.output, by simpa [World.setCell] using h.size, fun k hk hl => (Below.heap_setCell _ _ _ _ hk).trans (h.block k hk hl)⟩
theorem Only.below {g B : Nat} {w w' : World} (h : Only g w w') (hB : B ≤ g) (hs : B ≤ w.heap.size) : Below B w w' :=
  ⟨h.os, h.tape, h.output, h.size, fun k hk => h.block k (by omega) (by omega)⟩
theorem Only.cell {g : Nat} {w w' : World} (h : Only g w w') {p : Addr} {v : Value} (hp : p.block ≠ g) (hc : w.cell? p = some v) : w'.cell? p = some v := by
  have := h.block p.block hp (lt_of_cell hc)
  simp only [World.cell?, this] at hc ⊢
  exact hc
theorem addr_ne {g i j : Nat} (h : i ≠ j) : (⟨g, i, none⟩ : Addr) ≠ ⟨g, j, none⟩ := fun e => h (by injection e)
theorem Only.ext {g : Nat} {a b c : World} (h : Only g a b) (k : Ext b c) : Only g a c :=
  ⟨k.os.trans h.os, k.tape.trans h.tape, k.output.trans h.output, Nat.le_trans h.size k.size, fun i hi hl => (k.block i (Nat.lt_of_lt_of_le hl h.size)).trans (h.block i hi hl)⟩
theorem Only.of_ext {g : Nat} {a b : World} (k : Ext a b) : Only g a b := (Only.refl g a).ext k
theorem Only.drewN {g : Nat} {a b : World} (h : Only g a b) (n : Nat) : Only g a (b.drewN n) := ⟨h.os, h.tape, h.output, h.size, h.block⟩
theorem Only.alloc {g : Nat} {a b : World} (h : Only g a b) (o : Obj) : Only g a (b.alloc o) := h.ext ((Ext.refl b).alloc o)
/-- A block that is known whole. -/
def Blk (w : World) (g : Nat) (t : TypeId) (cs : Array Value) : Prop := w.heap[g]? = some (.cells cs t (0, 0))
theorem Blk.lt {w : World} {g : Nat} {t : TypeId} {cs : Array Value} (h : Blk w g t cs) : g < w.heap.size := by
  rcases Nat.lt_or_ge g w.heap.size with hlt | hge
  · exact hlt
  · unfold Blk at h; rw [Array.getElem?_eq_none hge] at h; cases h
theorem Blk.cell {w : World} {g : Nat} {t : TypeId} {cs : Array Value} (h : Blk w g t cs) (i : Nat) : w.cell? ⟨g, i, none⟩ = cs[i]? := by
  unfold Blk at h
  simp [World.cell?, h]
theorem Blk.frozen {w : World} {g : Nat} {t : TypeId} {cs : Array Value} (h : Blk w g t cs) (i : Nat) : w.frozen? ⟨g, i, none⟩ = false := by
  unfold Blk at h
  simp [World.frozen?, h]
theorem Blk.ext {w w' : World} {g : Nat} {t : TypeId} {cs : Array Value} (h : Blk w g t cs) (hx : Ext w w') : Blk w' g t cs := (hx.block g h.lt).trans h
theorem Blk.only {w w' : World} {g b : Nat} {t : TypeId} {cs : Array Value} (h : Blk w g t cs) (hx : Only b w w') (hne : g ≠ b) : Blk w' g t cs := (hx.block g hne h.lt).trans h
theorem Blk.set_ {w : World} {g : Nat} {t : TypeId} {cs : Array Value} (h : Blk w g t cs) (i : Nat) (u : Value) : Blk (w.setCell ⟨g, i, none⟩ u) g t (cs.setIfInBounds i u) := by
  unfold Blk at h ⊢
  simp [World.setCell, Array.getElem?_modify, h]
end Go.Proofs.YtcmllaeihnmkkaaDoor
namespace Go.Proofs.YtcmllaeihnmkkaaDoor
open Go Go.RowKit
theorem ta_nil_E (w : World) : (Instr.typeAssert .nilIface 43 34 true).run Tryd.prog w = .ok (.tuple #[.int .i64 0, .bool false]) w := by kernel_rfl
theorem ta_nil_P (w : World) : (Instr.typeAssert .nilIface 43 143 true).run Tryd.prog w = .ok (.tuple #[.agg #[.nilIface, .int .i64 0, .bool false], .bool false]) w := by kernel_rfl
theorem ta_nil_W (w : World) : (Instr.typeAssert .nilIface 43 145 true).run Tryd.prog w = .ok (.tuple #[.agg #[.nilIface, .string ⟨#[]⟩, .bool false], .bool false]) w := by kernel_rfl
theorem ta_nil_R (w : World) : (Instr.typeAssert .nilIface 43 146 true).run Tryd.prog w = .ok (.tuple #[.pointer none, .bool false]) w := by kernel_rfl
theorem ta_E_E (v : Value) (w : World) : (Instr.typeAssert (.iface 34 v) 43 34 true).run Tryd.prog w = .ok (.tuple #[v, .bool true]) w := by kernel_rfl
theorem ta_E_P (v : Value) (w : World) : (Instr.typeAssert (.iface 34 v) 43 143 true).run Tryd.prog w = .ok (.tuple #[.agg #[.nilIface, .int .i64 0, .bool false], .bool false]) w := by kernel_rfl
theorem ta_E_W (v : Value) (w : World) : (Instr.typeAssert (.iface 34 v) 43 145 true).run Tryd.prog w = .ok (.tuple #[.agg #[.nilIface, .string ⟨#[]⟩, .bool false], .bool false]) w := by kernel_rfl
theorem ta_E_R (v : Value) (w : World) : (Instr.typeAssert (.iface 34 v) 43 146 true).run Tryd.prog w = .ok (.tuple #[.pointer none, .bool false]) w := by kernel_rfl
theorem ta_P_E (v : Value) (w : World) : (Instr.typeAssert (.iface 143 v) 43 34 true).run Tryd.prog w = .ok (.tuple #[.int .i64 0, .bool false]) w := by kernel_rfl
theorem ta_P_P (v : Value) (w : World) : (Instr.typeAssert (.iface 143 v) 43 143 true).run Tryd.prog w = .ok (.tuple #[v, .bool true]) w := by kernel_rfl
theorem ta_P_W (v : Value) (w : World) : (Instr.typeAssert (.iface 143 v) 43 145 true).run Tryd.prog w = .ok (.tuple #[.agg #[.nilIface, .string ⟨#[]⟩, .bool false], .bool false]) w := by kernel_rfl
theorem ta_P_R (v : Value) (w : World) : (Instr.typeAssert (.iface 143 v) 43 146 true).run Tryd.prog w = .ok (.tuple #[.pointer none, .bool false]) w := by kernel_rfl
theorem ta_W_E (v : Value) (w : World) : (Instr.typeAssert (.iface 145 v) 43 34 true).run Tryd.prog w = .ok (.tuple #[.int .i64 0, .bool false]) w := by kernel_rfl
theorem ta_W_P (v : Value) (w : World) : (Instr.typeAssert (.iface 145 v) 43 143 true).run Tryd.prog w = .ok (.tuple #[.agg #[.nilIface, .int .i64 0, .bool false], .bool false]) w := by kernel_rfl
theorem ta_W_W (v : Value) (w : World) : (Instr.typeAssert (.iface 145 v) 43 145 true).run Tryd.prog w = .ok (.tuple #[v, .bool true]) w := by kernel_rfl
theorem ta_W_R (v : Value) (w : World) : (Instr.typeAssert (.iface 145 v) 43 146 true).run Tryd.prog w = .ok (.tuple #[.pointer none, .bool false]) w := by kernel_rfl
theorem ta_R_E (v : Value) (w : World) : (Instr.typeAssert (.iface 146 v) 43 34 true).run Tryd.prog w = .ok (.tuple #[.int .i64 0, .bool false]) w := by kernel_rfl
theorem ta_R_P (v : Value) (w : World) : (Instr.typeAssert (.iface 146 v) 43 143 true).run Tryd.prog w = .ok (.tuple #[.agg #[.nilIface, .int .i64 0, .bool false], .bool false]) w := by kernel_rfl
theorem ta_R_W (v : Value) (w : World) : (Instr.typeAssert (.iface 146 v) 43 145 true).run Tryd.prog w = .ok (.tuple #[.agg #[.nilIface, .string ⟨#[]⟩, .bool false], .bool false]) w := by kernel_rfl
theorem ta_R_R (v : Value) (w : World) : (Instr.typeAssert (.iface 146 v) 43 146 true).run Tryd.prog w = .ok (.tuple #[v, .bool true]) w := by kernel_rfl
end Go.Proofs.YtcmllaeihnmkkaaDoor
namespace Go.Proofs.YtcmllaeihnmkkaaDoor
open Go.RowKit
attribute [local go_sem] ta_nil_E ta_nil_P ta_nil_W ta_nil_R ta_E_E ta_E_P ta_E_W ta_E_R ta_P_E ta_P_P ta_P_W ta_P_R ta_W_E ta_W_P ta_W_W ta_W_R ta_R_E ta_R_P ta_R_W ta_R_R

theorem new_ok (w : World) : Calls Tryd.prog 66 #[.int .i64 0] w fun e w' => e = .returned .nilIface ∧ w' = w := by
  go_enter Tryd.func66, Tryd.ntmps66
  go_wp2
  go_ret
  exact ⟨rfl, rfl⟩
theorem new_code (c : Int) (w : World) (hc : c ≠ 0) : Calls Tryd.prog 66 #[.int .i64 c] w fun e w' => e = .returned (.iface 34 (.int .i64 c)) ∧ w' = w := by
  go_enter Tryd.func66, Tryd.ntmps66
  go_wp2
  go_ret
  exact ⟨rfl, rfl⟩
theorem at_nil (p : Value) (w : World) : Calls Tryd.prog 67 #[.nilIface, p] w fun e w' => e = .returned .nilIface ∧ w' = w := by
  go_enter Tryd.func67, Tryd.ntmps67
  go_wp2
  go_ret
  exact ⟨rfl, rfl⟩
set_option maxRecDepth 100000 in
theorem strange_nil (w : World) : Calls Tryd.prog 112 #[.nilIface] w fun e w' => e = .returned (.bool false) ∧ w' = w := by
  go_enter Tryd.func112, Tryd.ntmps112
  go_wp2
  go_ret
  exact ⟨rfl, rfl⟩
set_option maxRecDepth 100000 in
theorem strange_code (c : Int) (w : World) : Calls Tryd.prog 112 #[.iface 34 (.int .i64 c)] w fun e w' => e = .returned (.bool false) ∧ w' = w := by
  go_enter Tryd.func112, Tryd.ntmps112
  go_wp2
  go_ret
  exact ⟨rfl, rfl⟩
set_option maxRecDepth 100000 in
theorem strange_placed (t : TypeId) (v : Value) (p : Int) (b : Bool) (w : World) : Calls Tryd.prog 112 #[.iface 143 (.agg #[.iface t v, .int .i64 p, .bool b])] w fun e w' => e = .returned (.bool b) ∧ Below w.heap.size w w' := by
  go_enter Tryd.func112, Tryd.ntmps112
  go_wp2
  go_ret
  exact ⟨rfl, (Below.refl _ _).alloc (Nat.le_refl _) _⟩
set_option maxRecDepth 100000 in
theorem strange_worded (t : TypeId) (v : Value) (s : ByteArray) (b : Bool) (w : World) : Calls Tryd.prog 112 #[.iface 145 (.agg #[.iface t v, .string s, .bool b])] w fun e w' => e = .returned (.bool b) ∧ Below w.heap.size w w' := by
  go_enter Tryd.func112, Tryd.ntmps112
  go_wp2
  go_ret
  exact ⟨rfl, (Below.refl _ _).alloc (Nat.le_refl _) _⟩
set_option maxRecDepth 100000 in
theorem strange_row (r : Nat) (b : Bool) (w : World) (h1 : w.cell? ⟨r, 1, none⟩ = some (.bool b)) : Calls Tryd.prog 112 #[.iface 146 (.pointer (some ⟨r, 0, none⟩))] w fun e w' => e = .returned (.bool b) ∧ w' = w := by
  go_enter Tryd.func112, Tryd.ntmps112
  go_wp2
  go_ret
  exact ⟨rfl, rfl⟩
theorem at_code (c p : Int) (w : World) : Calls Tryd.prog 67 #[.iface 34 (.int .i64 c), .int .i64 p] w fun e w' => e = .returned (.iface 143 (.agg #[.iface 34 (.int .i64 c), .int .i64 p, .bool false])) ∧ w' = w := by
  go_enter Tryd.func67, Tryd.ntmps67
  go_wp2_with (first | (go_at_call 112; refine (strange_code _ _).mono ?_; rintro e w' ⟨rfl, rfl⟩))
  go_ret
  exact ⟨rfl, rfl⟩
theorem at_placed (t : TypeId) (v : Value) (q p : Int) (b : Bool) (w : World) : Calls Tryd.prog 67 #[.iface 143 (.agg #[.iface t v, .int .i64 q, .bool b]), .int .i64 p] w fun e w' => e = .returned (.iface 143 (.agg #[.iface 143 (.agg #[.iface t v, .int .i64 q, .bool b]), .int .i64 p, .bool b])) ∧ Below w.heap.size w w' := by
  go_enter Tryd.func67, Tryd.ntmps67
  go_wp2_with (first | (go_at_call 112; refine (strange_placed _ _ _ _ _).mono ?_; rintro e w' ⟨rfl, hb⟩))
  go_ret
  exact ⟨rfl, hb⟩
end Go.Proofs.YtcmllaeihnmkkaaDoor
