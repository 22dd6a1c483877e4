/- One cell: its words, by the program and by the document. -/
import Derived.Test.YtgnknliaeoblhabDoorCelMath
import Derived.Test.YtgnknliaeoblhabDoorWidth
import Derived.Test.YtgnknliaeoblhabDoorOnly
import Derived.Deep.MidRow
import Derived.Laws.BitsAll
import Derived.Laws.StructEq
import Derived.Laws.BitsAllLaws
import Derived.RegionTactic
import Derived.BigRegion
namespace Go.Proofs.YtgnknliaeoblhabDoor
open Go Go.RowKit

def Cel.val (c : Cel) : Value := .agg #[.int .i32 c.r, .int .u8 c.f, .int .u8 c.b, .int .u8 c.a]
theorem u8_nat {a : Int} (h : isU8 a) : ∃ n : Fin 256, a = ((n.val : Nat) : Int) := by
  unfold isU8 at h
  exact ⟨⟨a.toNat, by omega⟩, by simp only; omega⟩
theorem and192 {a : Int} (h : isU8 a) : bits .and .u8 a 192 = a / 64 * 64 := by
  obtain ⟨n, rfl⟩ := u8_nat h
  have : ∀ n : Fin 256, bits .and .u8 ((n.val : Nat) : Int) 192 = ((n.val : Nat) : Int) / 64 * 64 := by decide +kernel
  exact this n
theorem and128 {a : Int} (h : isU8 a) : bits .and .u8 a 128 = a / 128 * 128 := by
  obtain ⟨n, rfl⟩ := u8_nat h
  have : ∀ n : Fin 256, bits .and .u8 ((n.val : Nat) : Int) 128 = ((n.val : Nat) : Int) / 128 * 128 := by decide +kernel
  exact this n
theorem and64 {a : Int} (h : isU8 a) : bits .and .u8 a 64 = a / 64 % 2 * 64 := by
  obtain ⟨n, rfl⟩ := u8_nat h
  have : ∀ n : Fin 256, bits .and .u8 ((n.val : Nat) : Int) 64 = ((n.val : Nat) : Int) / 64 % 2 * 64 := by decide +kernel
  exact this n
theorem clear192 {a : Int} (h : isU8 a) : bits .andNot .u8 a 192 = a % 64 := by
  obtain ⟨n, rfl⟩ := u8_nat h
  have : ∀ n : Fin 256, bits .andNot .u8 ((n.val : Nat) : Int) 192 = ((n.val : Nat) : Int) % 64 := by decide +kernel
  exact this n
theorem or64 {a : Int} (h : isU8 a) : bits .or .u8 (a % 64) 64 = a % 64 + 64 := by
  obtain ⟨n, rfl⟩ := u8_nat h
  have : ∀ n : Fin 256, bits .or .u8 (((n.val : Nat) : Int) % 64) 64 = ((n.val : Nat) : Int) % 64 + 64 := by decide +kernel
  exact this n

theorem and64n {a : Int} (h : isU8 a) : bits .andNot .u8 a 64 = a % 64 + a / 128 * 128 := by
  obtain ⟨n, rfl⟩ := u8_nat h
  have : ∀ n : Fin 256, bits .andNot .u8 ((n.val : Nat) : Int) 64 = ((n.val : Nat) : Int) % 64 + ((n.val : Nat) : Int) / 128 * 128 := by decide +kernel
  exact this n
theorem tail_bits {a : Int} (h : isU8 a) : bits .or .u8 (bits .andNot .u8 a 64) 128 = a % 64 + 128 := by
  obtain ⟨n, rfl⟩ := u8_nat h
  have : ∀ n : Fin 256, bits .or .u8 (bits .andNot .u8 ((n.val : Nat) : Int) 64) 128 = ((n.val : Nat) : Int) % 64 + 128 := by decide +kernel
  exact this n
theorem tl_bits {a : Int} (h : isU8 a) : (bits .and .u8 a 128 != 0) = decide (a / 128 = 1) := by
  rw [and128 h]
  unfold isU8 at h
  by_cases e : a / 128 = 1
  · rw [e]; rfl
  · have : a / 128 = 0 := by omega
    rw [this]; rfl
theorem wide_bits {a : Int} (h : isU8 a) : (bits .and .u8 a 64 != 0) = decide (a / 64 % 2 = 1) := by
  rw [and64 h]
  unfold isU8 at h
  by_cases e : a / 64 % 2 = 1
  · rw [e]; rfl
  · have : a / 64 % 2 = 0 := by omega
    rw [this]; rfl
theorem infoCel : (Tryd.prog.info? 23).map (·.size) = some 4 := by kernel_rfl
/-- A struct that is handed back lies in a block of its own. -/
theorem ret_cel {fn : Func} {p : Tmp} (hr : fn.results = #[.cell p 23]) {Q : Ending → World → Prop} {a : Act} {w : World} {g : Nat} {x0 x1 x2 x3 : Value} (hd : a.defers = []) (hp : a.tmps.getD p undef = .pointer (some ⟨g, 0, none⟩))
    (hb : w.heap[g]? = some (.cells #[x0, x1, x2, x3] 23 (0, 0))) (hq : Q (.returned (.agg #[x0, x1, x2, x3])) w) : bodyPost Tryd.prog fn Q .ret a w := by
  obtain ⟨tm, df⟩ := a
  simp only at hd
  subst hd
  exact bodyPost_ret (results_cell_row hr _ _ g 23 _ (0, 0) _ hp hb Tryd.underlying23 rfl infoCel) rfl hq

/-- What a character makes. -/
def makeL (r : Int) (p : Cel) : List Cel := if widthL r = 1 then [⟨r, p.f, p.b, p.a % 64⟩] else if widthL r = 2 then [⟨r, p.f, p.b, p.a % 64 + 64⟩, Cel.tail ⟨r, p.f, p.b, p.a % 64 + 64⟩] else []
def Cel.cells (c : Cel) : List Value := [.int .i32 c.r, .int .u8 c.f, .int .u8 c.b, .int .u8 c.a]
/-- A cell lies in memory. -/
def CelAt (w : World) (g o : Nat) (c : Cel) : Prop := w.rangeAt g o c.cells
theorem CelAt.ext {w w' : World} {g o : Nat} {c : Cel} (h : CelAt w g o c) (hx : Ext w w') : CelAt w' g o c := fun j v hv => hx.cell (h j v hv)
theorem CelAt.only {w w' : World} {g o d : Nat} {c : Cel} (h : CelAt w g o c) (hx : Only d w w') (hg : g ≠ d) : CelAt w' g o c := fun j v hv => hx.cell hg (h j v hv)
theorem CelAt.new (w : World) (c : Cel) : CelAt (w.alloc (.cells #[.int .i32 c.r, .int .u8 c.f, .int .u8 c.b, .int .u8 c.a] 23)) w.heap.size 0 c :=
  fun j v hv => by
    have hb := Go.heap_alloc_new w (.cells #[.int .i32 c.r, .int .u8 c.f, .int .u8 c.b, .int .u8 c.a] 23)
    rw [Nat.zero_add]
    simp only [World.cell?, hb]
    rw [if_neg (by simp), ← Array.getElem?_toList]
    exact hv
theorem CelAt.load {w : World} {g o : Nat} {c : Cel} (h : CelAt w g o c) : (Instr.loadAt 23 (.pointer (some ⟨g, o, none⟩))).run Tryd.prog w = .ok (.agg #[.int .i32 c.r, .int .u8 c.f, .int .u8 c.b, .int .u8 c.a]) w :=
  run_loadAt_mid w g o _ c.cells _ h Tryd.underlying23 rfl infoCel
/-- The load of a cell, in the walk. -/
theorem wpList_load_cel {ops : Array Oper} {rest : List Oper} {op : Oper} {a : Act} {w : World} {Q : Exit → Act → World → Prop} (hgd : op.guard = none) (x : Operand) (ho : op.op = .load 23 x)
    (g o : Nat) (hx : a.eval x = .pointer (some ⟨g, o, none⟩)) (c : Cel) (h : CelAt w g o c)
    (k : wpList Tryd.prog ops Q rest (a.put op.dst (.agg #[.int .i32 c.r, .int .u8 c.f, .int .u8 c.b, .int .u8 c.a])) w) : wpList Tryd.prog ops Q (op :: rest) a w :=
  wpList_load_mid hgd 23 x ho g o hx c.cells _ h Tryd.underlying23 rfl infoCel k
theorem CelAt.loadVar {w : World} {g o : Nat} {c : Cel} (h : CelAt w g o c) : (loadVar 23 ⟨g, o, none⟩).run Tryd.prog w = .ok (.agg #[.int .i32 c.r, .int .u8 c.f, .int .u8 c.b, .int .u8 c.a]) w :=
  run_loadVar_mid w g o _ c.cells _ h Tryd.underlying23 rfl infoCel
theorem CelAt.zero {w : World} {g : Nat} {c : Cel} (h : CelAt w g 0 c) : w.cell? ⟨g, 0, none⟩ = some (.int .i32 c.r) ∧ w.cell? ⟨g, 1, none⟩ = some (.int .u8 c.f) ∧ w.cell? ⟨g, 2, none⟩ = some (.int .u8 c.b) ∧ w.cell? ⟨g, 3, none⟩ = some (.int .u8 c.a) :=
  ⟨h 0 _ rfl, h 1 _ rfl, h 2 _ rfl, h 3 _ rfl⟩
theorem CelAt.r {w : World} {g o : Nat} {c : Cel} (h : CelAt w g o c) : w.cell? ⟨g, o, none⟩ = some (.int .i32 c.r) := h 0 _ rfl
theorem CelAt.f {w : World} {g o : Nat} {c : Cel} (h : CelAt w g o c) : w.cell? ⟨g, o + 1, none⟩ = some (.int .u8 c.f) := h 1 _ rfl
theorem CelAt.b {w : World} {g o : Nat} {c : Cel} (h : CelAt w g o c) : w.cell? ⟨g, o + 2, none⟩ = some (.int .u8 c.b) := h 2 _ rfl
theorem CelAt.a {w : World} {g o : Nat} {c : Cel} (h : CelAt w g o c) : w.cell? ⟨g, o + 3, none⟩ = some (.int .u8 c.a) := h 3 _ rfl
theorem heap_two (w : World) (o1 o2 : Obj) : ((w.alloc o1).alloc o2).heap[w.heap.size + 1]? = some o2 := by
  have := Go.heap_alloc_new (w.alloc o1) o2
  rwa [World.size_alloc] at this

/-- Two cells are the same. -/
def celEq (x y : Cel) : Bool := decide (x = y)
theorem celEq_true {x y : Cel} : celEq x y = true ↔ x = y := by unfold celEq; simp
theorem celEq_false {x y : Cel} : celEq x y = false ↔ ¬ x = y := by unfold celEq; simp
theorem eq_cel (r f b a r' f' b' a' : Int) (w : World) : (Op.equalIn 10000 23 (.agg #[.int .i32 r, .int .u8 f, .int .u8 b, .int .u8 a]) (.agg #[.int .i32 r', .int .u8 f', .int .u8 b', .int .u8 a'])).run Tryd.prog w = .ok (celEq ⟨r, f, b, a⟩ ⟨r', f', b', a'⟩) w := by
  have u3 := Tryd.underlying21
  have a3 := Tryd.isAgg21
  have z3 := Tryd.sizeOf21
  have u4 := Tryd.underlying5
  have a4 := Tryd.isAgg5
  have z4 := Tryd.sizeOf5
  have hS : Tryd.prog.underlying 23 = some (.struct (Tryd.prog.fieldsOf 23)) := by kernel_rfl
  have hp : Tryd.prog.stoodInHeld 23 = false := by kernel_rfl
  rw [show (10000 : Nat) = 9999 + 1 from rfl, run_equalIn_agg w 9999 23 _ _ hS hp]
  simp only [Program.fieldsOf, Tryd.underlying23]
  go_simp
  unfold celEq
  by_cases h1 : r = r' <;> by_cases h2 : f = f' <;> by_cases h3 : b = b' <;> by_cases h4 : a = a' <;> simp [h1, h2, h3, h4]
end Go.Proofs.YtgnknliaeoblhabDoor
