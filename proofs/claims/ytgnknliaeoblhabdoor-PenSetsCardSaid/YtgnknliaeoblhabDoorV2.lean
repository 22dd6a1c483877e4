/- Only one block has turned. · One cell: its words, by the program and by the document. · Words of no program: what numbers make of a pen (chapter 8), as functions of lists. · Words of no program: what stands first in a row of bytes, and that a decoder tells it. · An append of a part that may be nothing. · Rows of characters: as arguments, and of a call's own. -/
import Derived.Test.YtgnknliaeoblhabDoorV1
import Derived.Deep.MidRow
import Derived.Laws.BitsAll
import Derived.Laws.StructEq
import Derived.Laws.BitsAllLaws
import Derived.RegionTactic
import Derived.BigRegion
import Derived.WalkKit
import Derived.Deep.AppendLies
import Derived.Laws.AppendOwnNone
import Derived.Test.YtgnknliaeoblhabDoorProg
import Derived.Maps.AppendAt
import Derived.OwnWalk
import Derived.KernelRfl
namespace Go.Proofs.YtgnknliaeoblhabDoor
open Go Go.RowKit

/-- Only block g may have turned. -/
structure Only (g : Nat) (w w' : World) : Prop where
  os : w'.os = w.os
  tape : w'.tape = w.tape
  output : w'.output = w.output
  size : w.heap.size ≤ w'.heap.size
  block : ∀ k, k ≠ g → k < w.heap.size → w'.heap[k]? = w.heap[k]?
theorem Only.refl (g : Nat) (w : World) : Only g w w := ⟨rfl, rfl, rfl, Nat.le_refl _, fun _ _ _ => rfl⟩
theorem Only.trans {g : Nat} {a b c : World} (h : Only g a b) (k : Only g b c) : Only g a c :=
  ⟨k.os.trans h.os, k.tape.trans h.tape, k.output.trans h.output, Nat.le_trans h.size k.size, fun i hi hl => (k.block i hi (Nat.lt_of_lt_of_le hl h.size)).trans (h.block i hi hl)⟩
theorem Only.drew {g : Nat} {a b : World} (h : Only g a b) : Only g a b.drew := ⟨h.os, h.tape, h.output, h.size, h.block⟩
theorem Only.setCell {g i : Nat} {a b : World} (h : Only g a b) (v : Value) : Only g a (b.setCell ⟨g, i, none⟩ v) :=
  ⟨h.os, h.tape, h.output, by simpa [World.setCell] using h.size, fun k hk hl => (Below.heap_setCell _ _ _ _ hk).trans (h.block k hk hl)⟩
theorem Only.below {g B : Nat} {w w' : World} (h : Only g w w') (hB : B ≤ g) (hs : B ≤ w.heap.size) : Below B w w' :=
  ⟨h.os, h.tape, h.output, h.size, fun k hk => h.block k (by omega) (by omega)⟩
theorem Only.cell {g : Nat} {w w' : World} (h : Only g w w') {p : Addr} {v : Value} (hp : p.block ≠ g) (hc : w.cell? p = some v) : w'.cell? p = some v := by
  have := h.block p.block hp (lt_of_cell hc)
  simp only [World.cell?, this] at hc ⊢
  exact hc
theorem addr_ne {g i j : Nat} (h : i ≠ j) : (⟨g, i, none⟩ : Addr) ≠ ⟨g, j, none⟩ := fun e => h (by injection e)
theorem Only.ext {g : Nat} {a b c : World} (h : Only g a b) (k : Ext b c) : Only g a c :=
  ⟨k.os.trans h.os, k.tape.trans h.tape, k.output.trans h.output, Nat.le_trans h.size k.size, fun i hi hl => (k.block i (Nat.lt_of_lt_of_le hl h.size)).trans (h.block i hi hl)⟩
theorem Only.of_ext {g : Nat} {a b : World} (k : Ext a b) : Only g a b := (Only.refl g a).ext k
theorem Only.drewN {g : Nat} {a b : World} (h : Only g a b) (n : Nat) : Only g a (b.drewN n) := ⟨h.os, h.tape, h.output, h.size, h.block⟩
theorem Only.alloc {g : Nat} {a b : World} (h : Only g a b) (o : Obj) : Only g a (b.alloc o) := h.ext ((Ext.refl b).alloc o)
/-- A block that is known whole. -/
def Blk (w : World) (g : Nat) (t : TypeId) (cs : Array Value) : Prop := w.heap[g]? = some (.cells cs t (0, 0))
theorem Blk.lt {w : World} {g : Nat} {t : TypeId} {cs : Array Value} (h : Blk w g t cs) : g < w.heap.size := by
  rcases Nat.lt_or_ge g w.heap.size with hlt | hge
  · exact hlt
  · unfold Blk at h; rw [Array.getElem?_eq_none hge] at h; cases h
theorem Blk.cell {w : World} {g : Nat} {t : TypeId} {cs : Array Value} (h : Blk w g t cs) (i : Nat) : w.cell? ⟨g, i, none⟩ = cs[i]? := by
  unfold Blk at h
  simp [World.cell?, h]
theorem Blk.frozen {w : World} {g : Nat} {t : TypeId} {cs : Array Value} (h : Blk w g t cs) (i : Nat) : w.frozen? ⟨g, i, none⟩ = false := by
  unfold Blk at h
  simp [World.frozen?, h]
theorem Blk.ext {w w' : World} {g : Nat} {t : TypeId} {cs : Array Value} (h : Blk w g t cs) (hx : Ext w w') : Blk w' g t cs := (hx.block g h.lt).trans h
theorem Blk.only {w w' : World} {g b : Nat} {t : TypeId} {cs : Array Value} (h : Blk w g t cs) (hx : Only b w w') (hne : g ≠ b) : Blk w' g t cs := (hx.block g hne h.lt).trans h
theorem Blk.set_ {w : World} {g : Nat} {t : TypeId} {cs : Array Value} (h : Blk w g t cs) (i : Nat) (u : Value) : Blk (w.setCell ⟨g, i, none⟩ u) g t (cs.setIfInBounds i u) := by
  unfold Blk at h ⊢
  simp [World.setCell, Array.getElem?_modify, h]
end Go.Proofs.YtgnknliaeoblhabDoor
namespace Go.Proofs.YtgnknliaeoblhabDoor
open Go Go.RowKit

def Cel.val (c : Cel) : Value := .agg #[.int .i32 c.r, .int .u8 c.f, .int .u8 c.b, .int .u8 c.a]
theorem u8_nat {a : Int} (h : isU8 a) : ∃ n : Fin 256, a = ((n.val : Nat) : Int) := by
  unfold isU8 at h
  exact ⟨⟨a.toNat, by omega⟩, by simp only; omega⟩
theorem and192 {a : Int} (h : isU8 a) : bits .and .u8 a 192 = a / 64 * 64 := by
  obtain ⟨n, rfl⟩ := u8_nat h
  have : ∀ n : Fin 256, bits .and .u8 ((n.val : Nat) : Int) 192 = ((n.val : Nat) : Int) / 64 * 64 := by decide +kernel
  exact this n
theorem and128 {a : Int} (h : isU8 a) : bits .and .u8 a 128 = a / 128 * 128 := by
  obtain ⟨n, rfl⟩ := u8_nat h
  have : ∀ n : Fin 256, bits .and .u8 ((n.val : Nat) : Int) 128 = ((n.val : Nat) : Int) / 128 * 128 := by decide +kernel
  exact this n
theorem and64 {a : Int} (h : isU8 a) : bits .and .u8 a 64 = a / 64 % 2 * 64 := by
  obtain ⟨n, rfl⟩ := u8_nat h
  have : ∀ n : Fin 256, bits .and .u8 ((n.val : Nat) : Int) 64 = ((n.val : Nat) : Int) / 64 % 2 * 64 := by decide +kernel
  exact this n
theorem clear192 {a : Int} (h : isU8 a) : bits .andNot .u8 a 192 = a % 64 := by
  obtain ⟨n, rfl⟩ := u8_nat h
  have : ∀ n : Fin 256, bits .andNot .u8 ((n.val : Nat) : Int) 192 = ((n.val : Nat) : Int) % 64 := by decide +kernel
  exact this n
theorem or64 {a : Int} (h : isU8 a) : bits .or .u8 (a % 64) 64 = a % 64 + 64 := by
  obtain ⟨n, rfl⟩ := u8_nat h
  have : ∀ n : Fin 256, bits .or .u8 (((n.val : Nat) : Int) % 64) 64 = ((n.val : Nat) : Int) % 64 + 64 := by decide +kernel
  exact this n

theorem and64n {a : Int} (h : isU8 a) : bits .andNot .u8 a 64 = a % 64 + a / 128 * 128 := by
  obtain ⟨n, rfl⟩ := u8_nat h
  have : ∀ n : Fin 256, bits .andNot .u8 ((n.val : Nat) : Int) 64 = ((n.val : Nat) : Int) % 64 + ((n.val : Nat) : Int) / 128 * 128 := by decide +kernel
  exact this n
theorem tail_bits {a : Int} (h : isU8 a) : bits .or .u8 (bits .andNot .u8 a 64) 128 = a % 64 + 128 := by
  obtain ⟨n, rfl⟩ := u8_nat h
  have : ∀ n : Fin 256, bits .or .u8 (bits .andNot .u8 ((n.val : Nat) : Int) 64) 128 = ((n.val : Nat) : Int) % 64 + 128 := by decide +kernel
  exact this n
theorem tl_bits {a : Int} (h : isU8 a) : (bits .and .u8 a 128 != 0) = decide (a / 128 = 1) := by
  rw [and128 h]
  unfold isU8 at h
  by_cases e : a / 128 = 1
  · rw [e]; rfl
  · have : a / 128 = 0 := by omega
    rw [this]; rfl
theorem wide_bits {a : Int} (h : isU8 a) : (bits .and .u8 a 64 != 0) = decide (a / 64 % 2 = 1) := by
  rw [and64 h]
  unfold isU8 at h
  by_cases e : a / 64 % 2 = 1
  · rw [e]; rfl
  · have : a / 64 % 2 = 0 := by omega
    rw [this]; rfl
theorem infoCel : (Tryd.prog.info? 23).map (·.size) = some 4 := by kernel_rfl
/-- A struct that is handed back lies in a block of its own. -/
theorem ret_cel {fn : Func} {p : Tmp} (hr : fn.results = #[.cell p 23]) {Q : Ending → World → Prop} {a : Act} {w : World} {g : Nat} {x0 x1 x2 x3 : Value} (hd : a.defers = []) (hp : a.tmps.getD p undef = .pointer (some ⟨g, 0, none⟩))
    (hb : w.heap[g]? = some (.cells #[x0, x1, x2, x3] 23 (0, 0))) (hq : Q (.returned (.agg #[x0, x1, x2, x3])) w) : bodyPost Tryd.prog fn Q .ret a w := by
  obtain ⟨tm, df⟩ := a
  simp only at hd
  subst hd
  exact bodyPost_ret (results_cell_row hr _ _ g 23 _ (0, 0) _ hp hb Tryd.underlying23 rfl infoCel) rfl hq

/-- What a character makes. -/
def makeL (r : Int) (p : Cel) : List Cel := if widthL r = 1 then [⟨r, p.f, p.b, p.a % 64⟩] else if widthL r = 2 then [⟨r, p.f, p.b, p.a % 64 + 64⟩, Cel.tail ⟨r, p.f, p.b, p.a % 64 + 64⟩] else []
def Cel.cells (c : Cel) : List Value := [.int .i32 c.r, .int .u8 c.f, .int .u8 c.b, .int .u8 c.a]
/-- A cell lies in memory. -/
def CelAt (w : World) (g o : Nat) (c : Cel) : Prop := w.rangeAt g o c.cells
theorem CelAt.ext {w w' : World} {g o : Nat} {c : Cel} (h : CelAt w g o c) (hx : Ext w w') : CelAt w' g o c := fun j v hv => hx.cell (h j v hv)
theorem CelAt.only {w w' : World} {g o d : Nat} {c : Cel} (h : CelAt w g o c) (hx : Only d w w') (hg : g ≠ d) : CelAt w' g o c := fun j v hv => hx.cell hg (h j v hv)
theorem CelAt.new (w : World) (c : Cel) : CelAt (w.alloc (.cells #[.int .i32 c.r, .int .u8 c.f, .int .u8 c.b, .int .u8 c.a] 23)) w.heap.size 0 c :=
  fun j v hv => by
    have hb := Go.heap_alloc_new w (.cells #[.int .i32 c.r, .int .u8 c.f, .int .u8 c.b, .int .u8 c.a] 23)
    rw [Nat.zero_add]
    simp only [World.cell?, hb]
    rw [if_neg (by simp), ← Array.getElem?_toList]
    exact hv
theorem CelAt.load {w : World} {g o : Nat} {c : Cel} (h : CelAt w g o c) : (Instr.loadAt 23 (.pointer (some ⟨g, o, none⟩))).run Tryd.prog w = .ok (.agg #[.int .i32 c.r, .int .u8 c.f, .int .u8 c.b, .int .u8 c.a]) w :=
  run_loadAt_mid w g o _ c.cells _ h Tryd.underlying23 rfl infoCel
/-- The load of a cell, in the walk. -/
theorem wpList_load_cel {ops : Array Oper} {rest : List Oper} {op : Oper} {a : Act} {w : World} {Q : Exit → Act → World → Prop} (hgd : op.guard = none) (x : Operand) (ho : op.op = .load 23 x)
    (g o : Nat) (hx : a.eval x = .pointer (some ⟨g, o, none⟩)) (c : Cel) (h : CelAt w g o c)
    (k : wpList Tryd.prog ops Q rest (a.put op.dst (.agg #[.int .i32 c.r, .int .u8 c.f, .int .u8 c.b, .int .u8 c.a])) w) : wpList Tryd.prog ops Q (op :: rest) a w :=
  wpList_load_mid hgd 23 x ho g o hx c.cells _ h Tryd.underlying23 rfl infoCel k
theorem CelAt.loadVar {w : World} {g o : Nat} {c : Cel} (h : CelAt w g o c) : (loadVar 23 ⟨g, o, none⟩).run Tryd.prog w = .ok (.agg #[.int .i32 c.r, .int .u8 c.f, .int .u8 c.b, .int .u8 c.a]) w :=
  run_loadVar_mid w g o _ c.cells _ h Tryd.underlying23 rfl infoCel
theorem CelAt.zero {w : World} {g : Nat} {c : Cel} (h : CelAt w g 0 c) : w.cell? ⟨g, 0, none⟩ = some (.int .i32 c.r) ∧ w.cell? ⟨g, 1, none⟩ = some (.int .u8 c.f) ∧ w.cell? ⟨g, 2, none⟩ = some (.int .u8 c.b) ∧ w.cell? ⟨g, 3, none⟩ = some (.int .u8 c.a) :=
  ⟨h 0 _ rfl, h 1 _ rfl, h 2 _ rfl, h 3 _ rfl⟩
theorem CelAt.r {w : World} {g o : Nat} {c : Cel} (h : CelAt w g o c) : w.cell? ⟨g, o, none⟩ = some (.int .i32 c.r) := h 0 _ rfl
theorem CelAt.f {w : World} {g o : Nat} {c : Cel} (h : CelAt w g o c) : w.cell? ⟨g, o + 1, none⟩ = some (.int .u8 c.f) := h 1 _ rfl
theorem CelAt.b {w : World} {g o : Nat} {c : Cel} (h : CelAt w g o c) : w.cell? ⟨g, o + 2, none⟩ = some (.int .u8 c.b) := h 2 _ rfl
theorem CelAt.a {w : World} {g o : Nat} {c : Cel} (h : CelAt w g o c) : w.cell? ⟨g, o + 3, none⟩ = some (.int .u8 c.a) := h 3 _ rfl
theorem heap_two (w : World) (o1 o2 : Obj) : ((w.alloc o1).alloc o2).heap[w.heap.size + 1]? = some o2 := by
  have := Go.heap_alloc_new (w.alloc o1) o2
  rwa [World.size_alloc] at this

/-- Two cells are the same. -/
def celEq (x y : Cel) : Bool := decide (x = y)
theorem celEq_true {x y : Cel} : celEq x y = true ↔ x = y := by unfold celEq; simp
theorem celEq_false {x y : Cel} : celEq x y = false ↔ ¬ x = y := by unfold celEq; simp
theorem eq_cel (r f b a r' f' b' a' : Int) (w : World) : (Op.equalIn 10000 23 (.agg #[.int .i32 r, .int .u8 f, .int .u8 b, .int .u8 a]) (.agg #[.int .i32 r', .int .u8 f', .int .u8 b', .int .u8 a'])).run Tryd.prog w = .ok (celEq ⟨r, f, b, a⟩ ⟨r', f', b', a'⟩) w := by
  have u3 := Tryd.underlying21
  have a3 := Tryd.isAgg21
  have z3 := Tryd.sizeOf21
  have u4 := Tryd.underlying5
  have a4 := Tryd.isAgg5
  have z4 := Tryd.sizeOf5
  have hS : Tryd.prog.underlying 23 = some (.struct (Tryd.prog.fieldsOf 23)) := by kernel_rfl
  have hp : Tryd.prog.stoodInHeld 23 = false := by kernel_rfl
  rw [show (10000 : Nat) = 9999 + 1 from rfl, run_equalIn_agg w 9999 23 _ _ hS hp]
  simp only [Program.fieldsOf, Tryd.underlying23]
  go_simp
  unfold celEq
  by_cases h1 : r = r' <;> by_cases h2 : f = f' <;> by_cases h3 : b = b' <;> by_cases h4 : a = a' <;> simp [h1, h2, h3, h4]
end Go.Proofs.YtgnknliaeoblhabDoor
namespace Go.Proofs.YtgnknliaeoblhabDoor
open Go Go.RowKit

/-- The colour of a number from 0 to 255. -/
def colP (n : Int) : Int := max n 1
def stepP (n : Int) : Int := min (max n 0) 255 / 43
def rgbP (r g b : Int) : Int := 16 + 36 * stepP r + 6 * stepP g + stepP b
theorem stepP_in (n : Int) : 0 ≤ stepP n ∧ stepP n ≤ 5 := by unfold stepP; omega
theorem rgbP_in (r g b : Int) : 16 ≤ rgbP r g b ∧ rgbP r g b ≤ 231 := by
  have := stepP_in r
  have := stepP_in g
  have := stepP_in b
  unfold rgbP; omega
theorem stepP_mono {a b : Int} (h : a ≤ b) : stepP a ≤ stepP b := by unfold stepP; omega
theorem rgbP_mono {a b c d e f : Int} (h1 : a ≤ d) (h2 : b ≤ e) (h3 : c ≤ f) : rgbP a b c ≤ rgbP d e f := by
  have := stepP_mono h1
  have := stepP_mono h2
  have := stepP_mono h3
  unfold rgbP; omega
/-- The ways of drawing: what turns each on, and off, and its bit. -/
def onW (i : Nat) : Int := [1, 2, 3, 4, 5, 7].getD i 0
def offW (i : Nat) : Int := [22, 22, 23, 24, 25, 27].getD i 0
def bitW (i : Nat) : Int := [1, 2, 4, 8, 16, 32].getD i 0
def wayP (i : Nat) (a n : Int) : Int := if n = onW i then bits .or .u8 a (bitW i) else if n = offW i then bits .andNot .u8 a (bitW i) else a
/-- What the ways from the i-th one on make of it. -/
def drawFrom : Nat → Nat → Int → Int → Int
  | 0, _, a, _ => a
  | k + 1, i, a, n => drawFrom k (i + 1) (wayP i a n) n
def drawnP (a n : Int) : Int := drawFrom 6 0 a n
theorem drawnP_eq (a n : Int) : drawnP a n = wayP 5 (wayP 4 (wayP 3 (wayP 2 (wayP 1 (wayP 0 a n) n) n) n) n) n := rfl
/-- The colour that is chosen, and what is left. -/
def chosenP (was : Int) : List Int → Int × List Int
  | [] => (was, [])
  | h :: t =>
    if h = 5 then (match t with | [] => (was, []) | n :: t => (if 0 ≤ n ∧ n ≤ 255 then colP n else was, t))
    else if h = 2 then (match t with | r :: g :: b :: t => (rgbP r g b, t) | _ => (was, []))
    else (was, [])
def obeyedP (c : Cel) (n : Int) (l : List Int) : Cel × List Int :=
  if n = 0 then (⟨c.r, 0, 0, 0⟩, l)
  else if 30 ≤ n ∧ n ≤ 37 then (⟨c.r, colP (n - 30), c.b, c.a⟩, l)
  else if n = 38 then (⟨c.r, (chosenP c.f l).1, c.b, c.a⟩, (chosenP c.f l).2)
  else if n = 39 then (⟨c.r, 0, c.b, c.a⟩, l)
  else if 40 ≤ n ∧ n ≤ 47 then (⟨c.r, c.f, colP (n - 40), c.a⟩, l)
  else if n = 48 then (⟨c.r, c.f, (chosenP c.b l).1, c.a⟩, (chosenP c.b l).2)
  else if n = 49 then (⟨c.r, c.f, 0, c.a⟩, l)
  else if 90 ≤ n ∧ n ≤ 97 then (⟨c.r, colP (n - 82), c.b, c.a⟩, l)
  else if 100 ≤ n ∧ n ≤ 107 then (⟨c.r, c.f, colP (n - 92), c.a⟩, l)
  else (⟨c.r, c.f, c.b, drawnP c.a n⟩, l)
theorem chosenP_len (was : Int) (l : List Int) : (chosenP was l).2.length ≤ l.length := by
  match l with
  | [] => exact Nat.le_refl _
  | [h] => simp only [chosenP]; by_cases h1 : h = 5 <;> by_cases h2 : h = 2 <;> simp [h1, h2]
  | [h, a] => simp only [chosenP]; by_cases h1 : h = 5 <;> by_cases h2 : h = 2 <;> simp [h1, h2]
  | [h, a, b] => simp only [chosenP]; by_cases h1 : h = 5 <;> by_cases h2 : h = 2 <;> simp [h1, h2]
  | h :: a :: b :: c :: t => simp only [chosenP]; by_cases h1 : h = 5 <;> by_cases h2 : h = 2 <;> simp [h1, h2] <;> omega
theorem obeyedP_len (c : Cel) (n : Int) (l : List Int) : (obeyedP c n l).2.length ≤ l.length := by
  unfold obeyedP
  repeat' split
  all_goals first | exact Nat.le_refl _ | exact chosenP_len _ _
/-- All that are left, one by one. -/
def runP : Nat → Cel → List Int → Cel
  | 0, c, _ => c
  | _ + 1, c, [] => c
  | k + 1, c, n :: l => runP k (obeyedP c n l).1 (obeyedP c n l).2
theorem runP_nil (k : Nat) (c : Cel) : runP k c [] = c := by cases k <;> rfl
theorem runP_more (k j : Nat) : ∀ (c : Cel) (l : List Int), l.length ≤ k → k ≤ j → runP j c l = runP k c l := by
  induction k generalizing j with
  | zero =>
    intro c l h _
    rw [List.eq_nil_of_length_eq_zero (Nat.le_zero.1 h), runP_nil]; rfl
  | succ k ih =>
    intro c l h hj
    obtain ⟨j, rfl⟩ : ∃ i, j = i + 1 := ⟨j - 1, by omega⟩
    cases l with
    | nil => rfl
    | cons n l =>
      show runP j _ _ = runP k _ _
      have := obeyedP_len c n l
      exact ih j _ _ (by simp at h; omega) (by omega)
/-- What an act's numbers are. -/
def numsP (n : Int) (ns : List Int) : List Int := if 0 < n then ns.take (min n 8).toNat else [0]
def penP (c : Cel) (kind r pr mid n : Int) (ns : List Int) : Cel := if kind ≠ 4 ∨ r ≠ 109 ∨ pr ≠ 0 ∨ mid ≠ 0 then c else runP 8 c (numsP n ns)
theorem bitW_cases (i : Nat) (hi : i < 6) : i = 0 ∨ i = 1 ∨ i = 2 ∨ i = 3 ∨ i = 4 ∨ i = 5 := by omega
theorem or_u8 {a : Int} (h : isU8 a) (i : Nat) (hi : i < 6) : isU8 (bits .or .u8 a (bitW i)) ∧ isU8 (bits .andNot .u8 a (bitW i)) := by
  obtain ⟨n, rfl⟩ := u8_nat h
  have : ∀ i : Fin 6, ∀ n : Fin 256, (0 ≤ bits .or .u8 ((n.val : Nat) : Int) (bitW i.val) ∧ bits .or .u8 ((n.val : Nat) : Int) (bitW i.val) < 256) ∧ (0 ≤ bits .andNot .u8 ((n.val : Nat) : Int) (bitW i.val) ∧ bits .andNot .u8 ((n.val : Nat) : Int) (bitW i.val) < 256) := by decide +kernel
  exact this ⟨i, hi⟩ n
theorem wayP_u8 {a : Int} (h : isU8 a) (i : Nat) (hi : i < 6) (n : Int) : isU8 (wayP i a n) := by
  unfold wayP
  split
  · exact (or_u8 h i hi).1
  split
  · exact (or_u8 h i hi).2
  · exact h
theorem drawnP_u8 {a : Int} (h : isU8 a) (n : Int) : isU8 (drawnP a n) := by
  rw [drawnP_eq]
  exact wayP_u8 (wayP_u8 (wayP_u8 (wayP_u8 (wayP_u8 (wayP_u8 h 0 (by decide) n) 1 (by decide) n) 2 (by decide) n) 3 (by decide) n) 4 (by decide) n) 5 (by decide) n
theorem colP_u8 {n : Int} (h0 : n ≤ 255) : isU8 (colP n) := by unfold isU8 colP; omega
theorem rgbP_u8 (r g b : Int) : isU8 (rgbP r g b) := by have := rgbP_in r g b; unfold isU8; omega
theorem chosenP_u8 {was : Int} (h : isU8 was) (l : List Int) : isU8 (chosenP was l).1 := by
  unfold chosenP
  repeat' split
  all_goals first | exact h | exact rgbP_u8 _ _ _ | exact colP_u8 (by omega)
theorem obeyedP_ok {c : Cel} (h : c.ok) (n : Int) (l : List Int) : (obeyedP c n l).1.ok := by
  obtain ⟨h1, h2, h3, h4⟩ := h
  have z : isU8 0 := by unfold isU8; omega
  unfold obeyedP
  split
  · exact ⟨h1, z, z, z⟩
  split
  · exact ⟨h1, colP_u8 (by omega), h3, h4⟩
  split
  · exact ⟨h1, chosenP_u8 h2 l, h3, h4⟩
  split
  · exact ⟨h1, z, h3, h4⟩
  split
  · exact ⟨h1, h2, colP_u8 (by omega), h4⟩
  split
  · exact ⟨h1, h2, chosenP_u8 h3 l, h4⟩
  split
  · exact ⟨h1, h2, z, h4⟩
  split
  · exact ⟨h1, colP_u8 (by omega), h3, h4⟩
  split
  · exact ⟨h1, h2, colP_u8 (by omega), h4⟩
  · exact ⟨h1, h2, h3, drawnP_u8 h4 n⟩
theorem obeyedP_r (c : Cel) (n : Int) (l : List Int) : (obeyedP c n l).1.r = c.r := by
  unfold obeyedP
  repeat' split
  all_goals rfl
theorem runP_r : ∀ (k : Nat) (c : Cel) (l : List Int), (runP k c l).r = c.r
  | 0, _, _ => rfl
  | _ + 1, _, [] => rfl
  | k + 1, c, n :: l => (runP_r k _ _).trans (obeyedP_r c n l)
theorem runP_ok : ∀ (k : Nat) {c : Cel} (_ : c.ok) (l : List Int), (runP k c l).ok
  | 0, _, h, _ => h
  | _ + 1, _, h, [] => h
  | k + 1, _, h, n :: l => runP_ok k (obeyedP_ok h n l) _
theorem numsP_len (n : Int) (ns : List Int) : (numsP n ns).length ≤ 8 := by
  unfold numsP
  split
  · rw [List.length_take]; omega
  · simp
end Go.Proofs.YtgnknliaeoblhabDoor
namespace Go.Proofs.YtgnknliaeoblhabDoor
open Go Go.RowKit

/-- Behind a first byte: how many bytes stand there, the character, and whether it may still become one. -/
def cont : Nat → Nat → Nat → Nat → Nat → List UInt8 → Nat × Int × Bool
  | 0, _, _, r, n, _ => (n, (r : Int), false)
  | _ + 1, _, _, _, n, [] => (n, 65533, true)
  | l + 1, lo, hi, r, n, b :: t => if lo ≤ b.toNat ∧ b.toNat ≤ hi then cont l 128 191 (r * 64 + b.toNat % 64) (n + 1) t else (n, 65533, false)
def firstL : List UInt8 → Nat × Int × Bool
  | [] => (1, 65533, false)
  | b :: t => if b.toNat < 128 then (1, (b.toNat : Int), false) else if (lead b.toNat).1 = 0 then (1, 65533, false)
      else cont (lead b.toNat).1 (lead b.toNat).2.1 (lead b.toNat).2.2 (b.toNat % (128 / 2 ^ (lead b.toNat).1)) 1 t
theorem cont_zero (lo hi r n : Nat) (x : List UInt8) : cont 0 lo hi r n x = (n, (r : Int), false) := rfl
theorem cont_nil (l lo hi r n : Nat) : cont (l + 1) lo hi r n [] = (n, 65533, true) := rfl
theorem cont_cons (l lo hi r n : Nat) (b : UInt8) (t : List UInt8) : cont (l + 1) lo hi r n (b :: t) = if lo ≤ b.toNat ∧ b.toNat ≤ hi then cont l 128 191 (r * 64 + b.toNat % 64) (n + 1) t else (n, 65533, false) := rfl
theorem flush_kept {s : DecSt} (h : s.k ≠ 0) : s.flush = [65533] := by unfold DecSt.flush; rw [if_neg h]
theorem flush_none {s : DecSt} (h : s.k = 0) : s.flush = [] := by unfold DecSt.flush; rw [if_pos h]
theorem decL_nil : decL [] = [] := rfl
theorem firstL_cons (b : UInt8) (t : List UInt8) : firstL (b :: t) = if b.toNat < 128 then (1, (b.toNat : Int), false) else if (lead b.toNat).1 = 0 then (1, 65533, false)
      else cont (lead b.toNat).1 (lead b.toNat).2.1 (lead b.toNat).2.2 (b.toNat % (128 / 2 ^ (lead b.toNat).1)) 1 t := rfl
theorem step_lost {s : DecSt} {b : Nat} (h : ¬ s.goes b) (hk : s.k ≠ 0) : s.step b = (65533 :: (fresh b).1, (fresh b).2) := by
  unfold DecSt.step DecSt.flush
  rw [if_neg h, if_neg hk]
  rfl
theorem run_lost {s : DecSt} {b : UInt8} (t : List UInt8) (h : ¬ s.goes b.toNat) (hk : s.k ≠ 0) : s.run (b :: t) = (65533 :: (DecSt.new.run (b :: t)).1, (DecSt.new.run (b :: t)).2) := by
  simp only [DecSt.run, step_lost h hk, new_step, List.cons_append]
theorem cont_run : ∀ (l : Nat) (s : DecSt) (n : Nat) (x : List UInt8), s.k ≠ 0 → s.l = l + 1 → ∀ n' r' o, cont (l + 1) s.lo s.hi s.r n x = (n', r', o) →
    n ≤ n' ∧ n' ≤ n + x.length ∧ (o = true → n' = n + x.length ∧ r' = 65533 ∧ (s.run x).1 = [] ∧ (s.run x).2.k ≠ 0) ∧
      (o = false → s.run x = (r' :: (DecSt.new.run (x.drop (n' - n))).1, (DecSt.new.run (x.drop (n' - n))).2))
  | l, s, n, [], hk, hl, n', r', o, h => by
    simp only [cont, Prod.mk.injEq] at h
    obtain ⟨rfl, rfl, rfl⟩ := h
    exact ⟨by omega, by simp, fun _ => ⟨by simp, rfl, rfl, hk⟩, fun e => by cases e⟩
  | l, s, n, b :: t, hk, hl, n', r', o, h => by
    simp only [cont] at h
    by_cases hb : s.lo ≤ b.toNat ∧ b.toNat ≤ s.hi
    · rw [if_pos hb] at h
      cases l with
      | zero =>
        simp only [cont, Prod.mk.injEq] at h
        obtain ⟨rfl, rfl, rfl⟩ := h
        refine ⟨by omega, by simp, (fun e => by cases e), fun _ => ?_⟩
        rw [Nat.add_sub_cancel_left]
        simp only [DecSt.run, step_last hk hb.1 hb.2 hl, List.drop_succ_cons, List.drop_zero, List.cons_append, List.nil_append]
      | succ l =>
        have hl1 : s.l ≠ 1 := by omega
        have IH := cont_run l (s.more b.toNat) (n + 1) t (by simp [DecSt.more]) (by simp [DecSt.more]; omega) n' r' o h
        obtain ⟨h1, h2, h3, h4⟩ := IH
        have hrun : s.run (b :: t) = (s.more b.toNat).run t := by
          simp only [DecSt.run, step_more hk hb.1 hb.2 hl1, List.nil_append]
        rw [hrun]
        refine ⟨by omega, by rw [List.length_cons]; omega, fun e => ?_, fun e => ?_⟩
        · obtain ⟨a1, a2, a3, a4⟩ := h3 e
          exact ⟨by rw [List.length_cons]; omega, a2, a3, a4⟩
        · rw [h4 e, show n' - n = (n' - (n + 1)) + 1 from by omega, List.drop_succ_cons]
    · rw [if_neg hb] at h
      simp only [Prod.mk.injEq] at h
      obtain ⟨rfl, rfl, rfl⟩ := h
      refine ⟨by omega, by omega, (fun e => by cases e), fun _ => ?_⟩
      rw [Nat.sub_self, List.drop_zero]
      exact run_lost t (fun hg => hb hg.2) hk
theorem first_run (b : UInt8) (t : List UInt8) {n : Nat} {r : Int} {o : Bool} (h : firstL (b :: t) = (n, r, o)) :
    1 ≤ n ∧ n ≤ (b :: t).length ∧ (o = true → n = (b :: t).length ∧ r = 65533 ∧ (DecSt.new.run (b :: t)).1 = [] ∧ (DecSt.new.run (b :: t)).2.k ≠ 0) ∧
      (o = false → DecSt.new.run (b :: t) = (r :: (DecSt.new.run ((b :: t).drop n)).1, (DecSt.new.run ((b :: t).drop n)).2)) := by
  rw [firstL_cons] at h
  by_cases h1 : b.toNat < 128
  · rw [if_pos h1] at h
    simp only [Prod.mk.injEq] at h
    obtain ⟨rfl, rfl, rfl⟩ := h
    refine ⟨by omega, by simp, (fun e => by cases e), fun _ => ?_⟩
    simp only [DecSt.run, new_step, fresh, if_pos h1, List.drop_succ_cons, List.drop_zero, List.cons_append, List.nil_append]
  · rw [if_neg h1] at h
    by_cases h2 : (lead b.toNat).1 = 0
    · rw [if_pos h2] at h
      simp only [Prod.mk.injEq] at h
      obtain ⟨rfl, rfl, rfl⟩ := h
      refine ⟨by omega, by simp, (fun e => by cases e), fun _ => ?_⟩
      simp only [DecSt.run, new_step, fresh, if_neg h1, if_pos h2, List.drop_succ_cons, List.drop_zero, List.cons_append, List.nil_append]
    · rw [if_neg h2] at h
      obtain ⟨l, hl⟩ : ∃ l, (lead b.toNat).1 = l + 1 := ⟨(lead b.toNat).1 - 1, by omega⟩
      have hrun : DecSt.new.run (b :: t) = (DecSt.begun b.toNat).run t := by
        simp only [DecSt.run, new_step, fresh_lead h2, List.nil_append]
      have IH := cont_run l (.begun b.toNat) 1 t (by simp [DecSt.begun]) hl n r o (by unfold DecSt.begun; simp only [← hl]; exact h)
      obtain ⟨a1, a2, a3, a4⟩ := IH
      rw [hrun, List.length_cons]
      refine ⟨a1, by omega, fun e => ?_, fun e => ?_⟩
      · obtain ⟨b1, b2⟩ := a3 e
        exact ⟨by omega, b2⟩
      · rw [a4 e, show n = (n - 1) + 1 from by omega, List.drop_succ_cons, Nat.add_sub_cancel]
theorem firstL_eta (x : List UInt8) : ∃ n r o, firstL x = (n, r, o) := ⟨_, _, _, rfl⟩
/-- The document's answer goes on from what stands first. -/
theorem decL_first (b : UInt8) (t : List UInt8) {n : Nat} {r : Int} {o : Bool} (h : firstL (b :: t) = (n, r, o)) : decL (b :: t) = r :: decL ((b :: t).drop n) := by
  obtain ⟨h1, h2, h3, h4⟩ := first_run b t h
  cases o with
  | true =>
    obtain ⟨a1, rfl, a3, a4⟩ := h3 rfl
    rw [a1, List.drop_length, decL_nil]
    unfold decL
    rw [a3, flush_kept a4]
    rfl
  | false =>
    unfold decL
    rw [h4 rfl]
    rfl
/-- A decoder that told nothing keeps all. -/
theorem keeps_step {s : DecSt} {b : Nat} (h : (s.step b).1 = []) : (s.step b).2.k = s.k + 1 := by
  unfold DecSt.step at h ⊢
  split
  · rename_i hg
    rw [if_pos hg] at h
    split
    · rename_i hl; rw [if_pos hl] at h; cases h
    · rfl
  · rename_i hg
    rw [if_neg hg] at h
    obtain ⟨h1, h2⟩ := List.append_eq_nil_iff.1 h
    have hk : s.k = 0 := by
      unfold DecSt.flush at h1
      split at h1
      · assumption
      · cases h1
    have := len_fresh b
    simp only [h2, List.length_nil] at this ⊢
    omega
theorem keeps_run : ∀ (x : List UInt8) (s : DecSt), (s.run x).1 = [] → (s.run x).2.k = s.k + x.length
  | [], s, _ => rfl
  | b :: t, s, h => by
    simp only [DecSt.run] at h ⊢
    obtain ⟨h1, h2⟩ := List.append_eq_nil_iff.1 h
    rw [keeps_run t _ h2, keeps_step h1, List.length_cons]
    omega
/-- What stands first has a sequence; and is it no fffd, its sequence stands there. -/
theorem ofNat_eq {n : Nat} {b : UInt8} (h : n = b.toNat) : UInt8.ofNat n = b := by subst h; simp
theorem numR_of {n : Nat} (h : isRune (n : Int)) : numR (n : Int) = n := by unfold numR; rw [fix_rune h]; simp
theorem first_rune (b : UInt8) (t : List UInt8) {n : Nat} {r : Int} {o : Bool} (h : firstL (b :: t) = (n, r, o)) :
    isRune r ∧ (o = false → r ≠ 65533 → encR r = (b :: t).take n) := by
  rw [firstL_cons] at h
  have hb := b.toNat_lt
  by_cases h1 : b.toNat < 128
  · rw [if_pos h1] at h
    simp only [Prod.mk.injEq] at h
    obtain ⟨rfl, rfl, rfl⟩ := h
    have hr : isRune (b.toNat : Int) := by unfold isRune; omega
    refine ⟨hr, fun _ _ => ?_⟩
    rw [encR_of, numR_of hr, if_pos h1]
    simp
  · rw [if_neg h1] at h
    by_cases h2 : (lead b.toNat).1 = 0
    · rw [if_pos h2] at h
      simp only [Prod.mk.injEq] at h
      obtain ⟨rfl, rfl, rfl⟩ := h
      exact ⟨isRune_fffd, fun _ e => absurd rfl e⟩
    · rw [if_neg h2] at h
      rcases lead_cases b.toNat with c | ⟨_, _, _, c4, c5⟩ | ⟨_, _, _, c4, c5⟩ | ⟨_, _, _, c4, c5⟩
      · rw [c] at h2; exact absurd rfl h2
      · have h : cont (0 + 1) 128 191 (b.toNat % (128 / 2 ^ 1)) 1 t = (n, r, o) := by rw [lead1 ⟨c4, c5⟩] at h; exact h
        cases t with
        | nil => simp only [cont_nil, Prod.mk.injEq] at h; obtain ⟨rfl, rfl, rfl⟩ := h; exact ⟨isRune_fffd, fun _ e => absurd rfl e⟩
        | cons b1 t =>
          rw [cont_cons] at h
          split at h
          · rename_i g1
            simp only [cont_zero, Prod.mk.injEq] at h
            obtain ⟨rfl, rfl, rfl⟩ := h
            have hr : isRune ((b.toNat % (128 / 2 ^ 1) * 64 + b1.toNat % 64 : Nat) : Int) := by unfold isRune; omega
            refine ⟨hr, fun _ _ => ?_⟩
            rw [encR_of, numR_of hr, if_neg (by omega), if_pos (by omega)]
            rw [ofNat_eq (b := b) (by omega), ofNat_eq (b := b1) (by omega)]
            rfl
          · simp only [Prod.mk.injEq] at h; obtain ⟨rfl, rfl, rfl⟩ := h; exact ⟨isRune_fffd, fun _ e => absurd rfl e⟩
      · have h : cont (0 + 1 + 1) (if b.toNat = 224 then 160 else 128) (if b.toNat = 237 then 159 else 191) (b.toNat % (128 / 2 ^ 2)) 1 t = (n, r, o) := by rw [lead2 ⟨c4, c5⟩] at h; exact h
        generalize hlo : (if b.toNat = 224 then 160 else 128) = lo at h
        generalize hhi : (if b.toNat = 237 then 159 else 191) = hi at h
        have hlo1 : 128 ≤ lo := by split at hlo <;> omega
        have hhi1 : hi ≤ 191 := by split at hhi <;> omega
        cases t with
        | nil => simp only [cont_nil, Prod.mk.injEq] at h; obtain ⟨rfl, rfl, rfl⟩ := h; exact ⟨isRune_fffd, fun _ e => absurd rfl e⟩
        | cons b1 t =>
          rw [cont_cons] at h
          split at h
          · rename_i g1
            cases t with
            | nil => simp only [cont_nil, Prod.mk.injEq] at h; obtain ⟨rfl, rfl, rfl⟩ := h; exact ⟨isRune_fffd, fun _ e => absurd rfl e⟩
            | cons b2 t =>
              rw [cont_cons] at h
              split at h
              · rename_i g2
                simp only [cont_zero, Prod.mk.injEq] at h
                obtain ⟨rfl, rfl, rfl⟩ := h
                have hr : isRune (((b.toNat % (128 / 2 ^ 2) * 64 + b1.toNat % 64) * 64 + b2.toNat % 64 : Nat) : Int) := by
                  unfold isRune
                  obtain ⟨g3, g4⟩ := g1
                  split at hlo <;> split at hhi <;> omega
                refine ⟨hr, fun _ _ => ?_⟩
                obtain ⟨g3, g4⟩ := g1
                rw [encR_of, numR_of hr, if_neg (by split at hlo <;> omega), if_neg (by split at hlo <;> split at hhi <;> omega), if_pos (by omega)]
                rw [ofNat_eq (b := b) (by split at hlo <;> split at hhi <;> omega), ofNat_eq (b := b1) (by split at hlo <;> split at hhi <;> omega), ofNat_eq (b := b2) (by omega)]
                rfl
              · simp only [Prod.mk.injEq] at h; obtain ⟨rfl, rfl, rfl⟩ := h; exact ⟨isRune_fffd, fun _ e => absurd rfl e⟩
          · simp only [Prod.mk.injEq] at h; obtain ⟨rfl, rfl, rfl⟩ := h; exact ⟨isRune_fffd, fun _ e => absurd rfl e⟩
      · have h : cont (0 + 1 + 1 + 1) (if b.toNat = 240 then 144 else 128) (if b.toNat = 244 then 143 else 191) (b.toNat % (128 / 2 ^ 3)) 1 t = (n, r, o) := by rw [lead3 ⟨c4, c5⟩] at h; exact h
        generalize hlo : (if b.toNat = 240 then 144 else 128) = lo at h
        generalize hhi : (if b.toNat = 244 then 143 else 191) = hi at h
        have hlo1 : 128 ≤ lo := by split at hlo <;> omega
        have hhi1 : hi ≤ 191 := by split at hhi <;> omega
        cases t with
        | nil => simp only [cont_nil, Prod.mk.injEq] at h; obtain ⟨rfl, rfl, rfl⟩ := h; exact ⟨isRune_fffd, fun _ e => absurd rfl e⟩
        | cons b1 t =>
          rw [cont_cons] at h
          split at h
          · rename_i g1
            cases t with
            | nil => simp only [cont_nil, Prod.mk.injEq] at h; obtain ⟨rfl, rfl, rfl⟩ := h; exact ⟨isRune_fffd, fun _ e => absurd rfl e⟩
            | cons b2 t =>
              rw [cont_cons] at h
              split at h
              · rename_i g2
                cases t with
                | nil => simp only [cont_nil, Prod.mk.injEq] at h; obtain ⟨rfl, rfl, rfl⟩ := h; exact ⟨isRune_fffd, fun _ e => absurd rfl e⟩
                | cons b3 t =>
                  rw [cont_cons] at h
                  split at h
                  · rename_i g5
                    simp only [cont_zero, Prod.mk.injEq] at h
                    obtain ⟨rfl, rfl, rfl⟩ := h
                    have hr : isRune ((((b.toNat % (128 / 2 ^ 3) * 64 + b1.toNat % 64) * 64 + b2.toNat % 64) * 64 + b3.toNat % 64 : Nat) : Int) := by
                      unfold isRune
                      obtain ⟨g3, g4⟩ := g1
                      split at hlo <;> split at hhi <;> omega
                    refine ⟨hr, fun _ _ => ?_⟩
                    obtain ⟨g3, g4⟩ := g1
                    rw [encR_of, numR_of hr, if_neg (by split at hlo <;> omega), if_neg (by split at hlo <;> split at hhi <;> omega), if_neg (by split at hlo <;> split at hhi <;> omega)]
                    rw [ofNat_eq (b := b) (by split at hlo <;> split at hhi <;> omega), ofNat_eq (b := b1) (by split at hlo <;> split at hhi <;> omega), ofNat_eq (b := b2) (by omega), ofNat_eq (b := b3) (by omega)]
                    rfl
                  · simp only [Prod.mk.injEq] at h; obtain ⟨rfl, rfl, rfl⟩ := h; exact ⟨isRune_fffd, fun _ e => absurd rfl e⟩
              · simp only [Prod.mk.injEq] at h; obtain ⟨rfl, rfl, rfl⟩ := h; exact ⟨isRune_fffd, fun _ e => absurd rfl e⟩
          · simp only [Prod.mk.injEq] at h; obtain ⟨rfl, rfl, rfl⟩ := h; exact ⟨isRune_fffd, fun _ e => absurd rfl e⟩
/-- What was decoded has sequences; and where no fffd is told, those are the bytes. -/
theorem decL_rune (m : Nat) : ∀ (x : List UInt8), x.length ≤ m → (∀ r, r ∈ decL x → isRune r) ∧ ((65533 : Int) ∉ decL x → encL (decL x) = x) := by
  induction m with
  | zero =>
    intro x hx
    obtain rfl : x = [] := List.eq_nil_of_length_eq_zero (by omega)
    refine ⟨fun r hr => ?_, fun _ => rfl⟩
    simp [decL, DecSt.run, DecSt.flush, DecSt.new] at hr
  | succ m ih =>
    intro x hx
    cases x with
    | nil => exact ih [] (by simp)
    | cons b t =>
      obtain ⟨n, r, o, h⟩ := firstL_eta (b :: t)
      obtain ⟨h1, h2, h3, h4⟩ := first_run b t h
      obtain ⟨hr, he⟩ := first_rune b t h
      rw [decL_first b t h]
      obtain ⟨i1, i2⟩ := ih ((b :: t).drop n) (by rw [List.length_drop]; omega)
      refine ⟨fun q hq => ?_, fun hn => ?_⟩
      · rcases List.mem_cons.1 hq with rfl | hq
        · exact hr
        · exact i1 q hq
      · have hne : r ≠ 65533 := fun e => hn (by rw [e]; exact List.mem_cons_self ..)
        have ho : o = false := by
          cases o with
          | false => rfl
          | true => exact absurd (h3 rfl).2.1 hne
        rw [encL_cons, he ho hne, i2 fun hm => hn (List.mem_cons_of_mem _ hm), List.take_append_drop]
theorem decL_all (x : List UInt8) : ∀ r, r ∈ decL x → isRune r := (decL_rune x.length x (Nat.le_refl _)).1
theorem decL_clean (x : List UInt8) (h : (65533 : Int) ∉ decL x) : encL (decL x) = x := (decL_rune x.length x (Nat.le_refl _)).2 h
theorem map_fix : ∀ (zs : List Int), (∀ r, r ∈ zs → isRune r) → zs.map fixR = zs
  | [], _ => rfl
  | z :: zs, h => by rw [List.map_cons, fix_rune (h z (List.mem_cons_self ..)), map_fix zs fun r hr => h r (List.mem_cons_of_mem _ hr)]
theorem decL_again (x : List UInt8) : decL (encL (decL x)) = decL x := by rw [decL_encL, map_fix _ (decL_all x)]
theorem decL_plain : ∀ (x : List UInt8), (∀ b, b ∈ x → b.toNat < 128) → DecSt.new.run x = (x.map fun b => (b.toNat : Int), .new)
  | [], _ => rfl
  | b :: t, h => by
    have h1 := h b (List.mem_cons_self ..)
    simp only [DecSt.run, new_step, fresh, if_pos h1, List.map_cons, List.cons_append, List.nil_append]
    rw [decL_plain t fun q hq => h q (List.mem_cons_of_mem _ hq)]
theorem isI32_rune {r : Int} (h : isRune r) : isI32 r := by unfold isRune at h; unfold isI32; omega
end Go.Proofs.YtgnknliaeoblhabDoor
namespace Go.Proofs.YtgnknliaeoblhabDoor
open Go Go.RowKit

theorem ownsRow_low {w : World} {B B' : Nat} {e : TypeId} {z n : Nat} {v : Value} {xs : List Value} (h : w.ownsRow B e z v n xs) (hb : B' ≤ B) : w.ownsRow B' e z v n xs := by
  refine ⟨h.1, ?_⟩
  rcases h.2 with h2 | ⟨g, cap, cur, h1, h2, h3⟩
  · exact .inl h2
  · exact .inr ⟨g, cap, cur, h1, by omega, h3⟩
theorem own_none {w : World} {B : Nat} {e : TypeId} {z n n' c : Nat} {ad : Option Addr} {xs : List Value} (h : w.ownsRow B e z (.slice ad n c) n' xs) (ha : ad = none) : n = 0 ∧ c = 0 := by
  subst ha
  rcases h.2 with ⟨h1, _⟩ | ⟨g, cap, cur, h1, _⟩
  · injection h1 with _ h2 h3
    exact ⟨h2, h3⟩
  · injection h1 with h2 _ _
    cases h2
theorem own_addr {w : World} {B : Nat} {e : TypeId} {z n n' c : Nat} {ad : Option Addr} {xs : List Value} (h : w.ownsRow B e z (.slice ad n c) n' xs) : ad = none ∨ ∃ g, ad = some ⟨g, 0, none⟩ := by
  rcases h.2 with ⟨h1, _⟩ | ⟨g, cap, cur, h1, _⟩
  · injection h1 with h2 _ _
    exact .inl h2
  · injection h1 with h2 _ _
    exact .inr ⟨g, h2⟩
theorem own_some {w : World} {B : Nat} {e : TypeId} {z n n' c : Nat} {ad : Option Addr} {xs : List Value} (h : w.ownsRow B e z (.slice ad n c) n' xs) (hn : 0 < n) : ∃ g, ad = some ⟨g, 0, none⟩ := by
  rcases h.2 with ⟨h1, _⟩ | ⟨g, cap, cur, h1, _⟩
  · injection h1 with _ h2 h3
    omega
  · injection h1 with h2 _ _
    exact ⟨g, h2⟩
section
variable {P : Program} {w : World}
theorem wp_append_opt {o : Oper} {a : Act} {K : Act → World → Prop} {Q : Exit → Act → World → Prop} (s x : Operand) (t : TypeId)
    (ho : o.op = .call { callee := .builtin .append, args := #[s, x], argTypes := #[t, t] })
    (base : Nat) (e : TypeId) (i : TypeInfo) (z : Value) (size bytes : Nat) (ht : P.underlying t = some (.slice e)) (hi : P.info? e = some i) (hz : i.zero = some z)
    (hsize : i.size = size) (hby : i.bytes = bytes) (hzs : z.cells.size = size) (hsz : 0 < size)
    (v : Value) (n : Nat) (xs : List Value) (hs : a.eval s = v) (hown : w.ownsRow base e size v n xs)
    (ad : Option Addr) (m c : Nat) (news : List Value) (hx : a.eval x = .slice ad m c) (hno : ad = none → m = 0 ∧ c = 0) (hl : news.length = m * size)
    (hnews : ∀ A, ad = some A → ∀ j u, news[j]? = some u → w.cell? (A.add j) = some u) (h1 : ∀ u ∈ news, u.oneCell' = true)
    (h63 : n + m ≤ maxLen) (hbytes : (n + m) * bytes ≤ 140737488355328) (hbase : base ≤ w.heap.size)
    (h : ∀ v' w', w'.ownsRow base e size v' (n + m) (xs ++ news) → w.grownBy w' v.ownBlock → K (a.put o.dst v') w') : o.wp P a w K Q := by
  cases ad with
  | some A => exact wp_append_own w s x t ho base e i z size bytes ht hi hz hsize hby hzs hsz v n xs hs hown A m c news hx hl (hnews A rfl) h1 h63 hbytes hbase fun v' w' h2 h3 _ => h v' w' h2 h3
  | none =>
    obtain ⟨rfl, rfl⟩ := hno rfl
    have hn0 : news = [] := List.eq_nil_of_length_eq_zero (by omega)
    subst hn0
    have hrun := run_append_owned_none (P := P) (w := w) base t o.type e i size ht hi v n xs hown
    unfold Oper.wp
    simp [execOp, ho, resolve, invoke, builtin, hs, hx, hrun, Result.andThen]
    exact h v w (by rw [List.append_nil]; exact hown) ⟨rfl, rfl, rfl, Nat.le_refl _, fun _ _ _ => rfl⟩

theorem wpList_append_opt {ops : Array Oper} {rest : List Oper} {o : Oper} {a : Act} {Q : Exit → Act → World → Prop} (hgd : o.guard = none) (s x : Operand) (t : TypeId)
    (ho : o.op = .call { callee := .builtin .append, args := #[s, x], argTypes := #[t, t] })
    (base : Nat) (e : TypeId) (i : TypeInfo) (z : Value) (size bytes : Nat) (ht : P.underlying t = some (.slice e)) (hi : P.info? e = some i) (hz : i.zero = some z)
    (hsize : i.size = size) (hby : i.bytes = bytes) (hzs : z.cells.size = size) (hsz : 0 < size)
    (v : Value) (n : Nat) (xs : List Value) (hs : a.eval s = v) (hown : w.ownsRow base e size v n xs)
    (ad : Option Addr) (m c : Nat) (news : List Value) (hx : a.eval x = .slice ad m c) (hno : ad = none → m = 0 ∧ c = 0) (hl : news.length = m * size)
    (hnews : ∀ A, ad = some A → ∀ j u, news[j]? = some u → w.cell? (A.add j) = some u) (h1 : ∀ u ∈ news, u.oneCell' = true)
    (h63 : n + m ≤ maxLen) (hbytes : (n + m) * bytes ≤ 140737488355328) (hbase : base ≤ w.heap.size)
    (h : ∀ v' w', w'.ownsRow base e size v' (n + m) (xs ++ news) → w.grownBy w' v.ownBlock → wpList P ops Q rest (a.put o.dst v') w') : wpList P ops Q (o :: rest) a w :=
  wpList_plain hgd fun _ hK => wp_append_opt s x t ho base e i z size bytes ht hi hz hsize hby hzs hsz v n xs hs hown ad m c news hx hno hl hnews h1 h63 hbytes hbase fun v' w' h2 h3 => hK _ _ (h v' w' h2 h3)

theorem step_append_opt {ops : Array Oper} {o : Oper} {a : Act} {K : Act → World → Prop} {Q : Exit → Act → World → Prop} {E : Prop} (hgd : o.guard = none) (s x : Operand) (t : TypeId)
    (ho : o.op = .call { callee := .builtin .append, args := #[s, x], argTypes := #[t, t] })
    (base : Nat) (e : TypeId) (i : TypeInfo) (z : Value) (size bytes : Nat) (ht : P.underlying t = some (.slice e)) (hi : P.info? e = some i) (hz : i.zero = some z)
    (hsize : i.size = size) (hby : i.bytes = bytes) (hzs : z.cells.size = size) (hsz : 0 < size)
    (v : Value) (n : Nat) (xs : List Value) (hs : a.eval s = v) (hown : w.ownsRow base e size v n xs)
    (ad : Option Addr) (m c : Nat) (news : List Value) (hx : a.eval x = .slice ad m c) (hno : ad = none → m = 0 ∧ c = 0) (hl : news.length = m * size)
    (hnews : ∀ A, ad = some A → ∀ j u, news[j]? = some u → w.cell? (A.add j) = some u) (h1 : ∀ u ∈ news, u.oneCell' = true)
    (h63 : n + m ≤ maxLen) (hbytes : (n + m) * bytes ≤ 140737488355328) (hbase : base ≤ w.heap.size)
    (h : ∀ v' w', w'.ownsRow base e size v' (n + m) (xs ++ news) → w.grownBy w' v.ownBlock → K (a.put o.dst v') w') :
    if Region.wanted o (yielded ops a.tmps) = true then Oper.wp P o a w K Q else E := by
  have hw : Region.wanted o (yielded ops a.tmps) = true := by simp [Region.wanted, hgd]
  rw [if_pos hw]
  exact wp_append_opt s x t ho base e i z size bytes ht hi hz hsize hby hzs hsz v n xs hs hown ad m c news hx hno hl hnews h1 h63 hbytes hbase h
end
end Go.Proofs.YtgnknliaeoblhabDoor
namespace Go.Proofs.YtgnknliaeoblhabDoor
open Go Go.RowKit

/-- A slice that reads as a row of numbers. -/
def IsRunes (w : World) (v : Value) (zs : List Int) : Prop :=
  ∃ A c, v = .slice A zs.length c ∧ (zs.length ≤ c ∧ (A = none → c = 0)) ∧ ∀ i n, zs[i]? = some n → isI32 n ∧ ∃ g off, A = some ⟨g, off, none⟩ ∧ w.cell? ⟨g, off + i, none⟩ = some (.int .i32 n)
theorem IsRunes.ext {w w' : World} {v : Value} {zs : List Int} (h : IsRunes w v zs) (hx : Ext w w') : IsRunes w' v zs := by
  obtain ⟨A, c, e, hc, h⟩ := h
  refine ⟨A, c, e, hc, fun i n hi => ?_⟩
  obtain ⟨h1, g, off, h2, h3⟩ := h i n hi
  exact ⟨h1, g, off, h2, hx.cell h3⟩
theorem IsRunes.all {w : World} {v : Value} {zs : List Int} (h : IsRunes w v zs) : ∀ n, n ∈ zs → isI32 n := by
  obtain ⟨A, c, e, hc, h⟩ := h
  intro n hn
  obtain ⟨i, hi⟩ := List.getElem?_of_mem hn
  exact (h i n hi).1
theorem add_off (g off j : Nat) : (⟨g, off, none⟩ : Addr).add j = ⟨g, off + j, none⟩ := by unfold Addr.add; split <;> simp_all
theorem IsRunes.cut {w : World} {A : Option Addr} {c : Nat} {zs : List Int} (h : IsRunes w (.slice A zs.length c) zs) (k : Nat) (hk : k ≤ zs.length) : IsRunes w (.slice A k c) (zs.take k) := by
  obtain ⟨A', c', e, hc, h⟩ := h
  injection e with e1 _ e3
  subst e1 e3
  have hl : (zs.take k).length = k := by rw [List.length_take]; omega
  refine ⟨A, c, by rw [hl], ⟨by have := hc.1; omega, hc.2⟩, fun i n hi => ?_⟩
  have hik : i < k := by
    have := (List.getElem?_eq_some_iff.1 hi).1
    omega
  rw [List.getElem?_take_of_lt hik] at hi
  exact h i n hi
theorem IsRunes.addr {w : World} {A : Option Addr} {n c : Nat} {zs : List Int} (h : IsRunes w (.slice A n c) zs) (hk : 0 < zs.length) : ∃ g off, A = some ⟨g, off, none⟩ := by
  obtain ⟨A', c', e, hc, h⟩ := h
  injection e with e1 _ e3
  subst e1 e3
  obtain ⟨_, g, off, e, _⟩ := h 0 _ (List.getElem?_eq_getElem hk)
  exact ⟨g, off, e⟩
theorem IsRunes.form {w : World} {v : Value} {zs : List Int} (h : IsRunes w v zs) : ∃ A c, v = .slice A zs.length c ∧ zs.length ≤ c ∧ (A = none → c = 0) := by
  obtain ⟨A, c, e, hc, _⟩ := h
  exact ⟨A, c, e, hc.1, hc.2⟩
theorem IsRunes.at {w : World} {A : Option Addr} {n c : Nat} {zs : List Int} (h : IsRunes w (.slice A n c) zs) {i : Nat} {m : Int} (hi : zs[i]? = some m) : isI32 m ∧ ∃ g off, A = some ⟨g, off, none⟩ ∧ w.cell? ⟨g, off + i, none⟩ = some (.int .i32 m) := by
  obtain ⟨A', c', e, _, h⟩ := h
  injection e with e1 _ _
  subst e1
  exact h i m hi
theorem IsRunes.at' {w : World} {g off n c : Nat} {zs : List Int} (h : IsRunes w (.slice (some ⟨g, off, none⟩) n c) zs) {i : Nat} {m : Int} (hi : zs[i]? = some m) : isI32 m ∧ w.cell? ⟨g, off + i, none⟩ = some (.int .i32 m) := by
  obtain ⟨h1, g', off', e, hc⟩ := h.at hi
  injection e with e
  injection e with e1 e2 _
  subst e1 e2
  exact ⟨h1, hc⟩
/-- The first so many of a row. -/
def fewL (zs : List Int) (k : Nat) : List Int := if k < zs.length then zs.take k else zs
theorem fewL_len (zs : List Int) (k : Nat) : (fewL zs k).length ≤ k := by
  unfold fewL; split
  · rw [List.length_take]; omega
  · omega
/-- A row of characters of the call's own. -/
def cellsR (l : List Int) : List Value := l.map fun n => .int .i32 n
theorem cellsR_append (a b : List Int) : cellsR (a ++ b) = cellsR a ++ cellsR b := List.map_append
theorem cellsR_len (l : List Int) : (cellsR l).length = l.length := List.length_map ..
theorem cellsR_one (l : List Int) : ∀ u ∈ cellsR l, u.oneCell' = true := by
  intro u hu
  obtain ⟨_, _, rfl⟩ := List.mem_map.1 hu
  rfl
def OwnR (w : World) (base : Nat) (v : Value) (l : List Int) : Prop := w.ownsRow base 21 1 v l.length (cellsR l)
theorem infoRune : (Tryd.prog.info? 21).map (fun i => (i.zero, i.size, i.bytes)) = some (some (.int .i32 0), 1, 4) := by kernel_rfl
theorem OwnR.nil (w : World) (base : Nat) : OwnR w base (.slice none 0 0) [] := World.ownsRow_nil _ _ _ _
theorem OwnR.more {w : World} {base : Nat} {v : Value} {l m : List Int} (h : w.ownsRow base 21 1 v (l.length + m.length) (cellsR l ++ cellsR m)) : OwnR w base v (l ++ m) := by
  unfold OwnR
  rw [List.length_append, cellsR_append]; exact h
theorem own_kept {w w' : World} {base n : Nat} {e : TypeId} {v : Value} {xs : List Value} (h : w.ownsRow base e 1 v n xs) (hk : ∀ g, base ≤ g → g < w.heap.size → w'.heap[g]? = w.heap[g]?) : w'.ownsRow base e 1 v n xs := by
  obtain ⟨h1, h2⟩ := h
  refine ⟨h1, ?_⟩
  rcases h2 with h2 | ⟨g, cap, cur, e1, e2, e3, e4⟩
  · exact .inl h2
  · refine .inr ⟨g, cap, cur, e1, e2, ?_, e4⟩
    have hlt : g < w.heap.size := by
      rcases Nat.lt_or_ge g w.heap.size with h | h
      · exact h
      · rw [Array.getElem?_eq_none h] at e3; cases e3
    rw [hk g e2 hlt, e3]
theorem OwnR.ext {w w' : World} {base : Nat} {v : Value} {l : List Int} (h : OwnR w base v l) (hx : Ext w w') : OwnR w' base v l := own_kept h fun g _ hg => hx.block g hg
theorem OwnR.only {w w' : World} {base d : Nat} {v : Value} {l : List Int} (h : OwnR w base v l) (hx : Only d w w') (hd : d < base) : OwnR w' base v l := own_kept h fun g hb hg => hx.block g (by omega) hg
theorem OwnR.low {w : World} {B B' : Nat} {v : Value} {l : List Int} (h : OwnR w B v l) (hb : B' ≤ B) : OwnR w B' v l := ownsRow_low h hb
theorem OwnR.isRunes {w : World} {base : Nat} {v : Value} {l : List Int} (h : OwnR w base v l) (ha : ∀ n, n ∈ l → isI32 n) : IsRunes w v l := by
  have hc := fun {g} => World.ownsRow.cells (g := g) h
  obtain ⟨_, h2⟩ := h
  rcases h2 with ⟨rfl, h0⟩ | ⟨g, cap, cur, rfl, _, _, hn, _⟩
  · obtain rfl := List.eq_nil_of_length_eq_zero h0
    exact ⟨none, 0, rfl, ⟨Nat.le_refl _, fun _ => rfl⟩, fun i n hi => by cases hi⟩
  · refine ⟨_, cap, rfl, ⟨hn, fun e => by cases e⟩, fun i n hi => ⟨ha n (List.mem_of_getElem? hi), g, 0, rfl, ?_⟩⟩
    have := hc (g := g) rfl i (.int .i32 n) (by rw [cellsR, List.getElem?_map, hi]; rfl)
    rw [add_off] at this
    exact this
theorem OwnR.form {w : World} {base : Nat} {v : Value} {l : List Int} (h : OwnR w base v l) : ∃ A c, v = .slice A l.length c ∧ (A = none → l.length = 0 ∧ c = 0) := by
  rcases h.2 with ⟨rfl, h0⟩ | ⟨g, cap, cur, rfl, _, _, hn, _⟩
  · exact ⟨none, 0, by rw [h0], fun _ => ⟨h0, rfl⟩⟩
  · exact ⟨_, cap, rfl, fun e => by cases e⟩
theorem OwnR.at {w : World} {base : Nat} {A : Option Addr} {n c : Nat} {l : List Int} (h : OwnR w base (.slice A n c) l) : ∀ B, A = some B → ∀ j u, (cellsR l)[j]? = some u → w.cell? (B.add j) = some u := by
  intro B hB j u hu
  subst hB
  rcases h.2 with ⟨e, _⟩ | ⟨g, cap, cur, e, _⟩
  · injection e with e1 _ _; cases e1
  · injection e with e1 _ _
    obtain rfl := Option.some.inj e1
    exact World.ownsRow.cells h rfl j u hu
theorem ext_grown {w0 w w' : World} {base n : Nat} {e : TypeId} {v : Value} {xs : List Value} (h : Ext w0 w) (ho : w.ownsRow base e 1 v n xs) (hg : w.grownBy w' v.ownBlock) (hb : w0.heap.size ≤ base) : Ext w0 w' :=
  Below.grown h hg h.size fun k hk => by have := (ho.lt k hk).1; omega
theorem only_grown {w0 w w' : World} {d base n : Nat} {e : TypeId} {v : Value} {xs : List Value} (h : Only d w0 w) (ho : w.ownsRow base e 1 v n xs) (hg : w.grownBy w' v.ownBlock) (hb : w0.heap.size ≤ base) : Only d w0 w' := by
  obtain ⟨g1, g2, g3, g4, g5⟩ := hg
  refine ⟨g1.trans h.os, g2.trans h.tape, g3.trans h.output, Nat.le_trans h.size g4, fun k hk hl => ?_⟩
  have hl' : k < w.heap.size := Nat.lt_of_lt_of_le hl h.size
  refine (g5 k hl' ?_).trans (h.block k hk hl)
  intro hq
  have := (ho.lt k hq.symm).1
  omega
end Go.Proofs.YtgnknliaeoblhabDoor
