/- One cell: its words, by the program and by the document. -/
import Derived.Test.YtckdchkegbdiaaaDoorCelMath
import Derived.Test.YtckdchkegbdiaaaDoorWidth
import Derived.Test.YtckdchkegbdiaaaDoorOnly
import Derived.Deep.MidRow
import Derived.Laws.BitsAll
import Derived.Laws.StructEq
import Derived.Laws.BitsAllLaws
import Derived.RegionTactic
import Derived.BigRegion
namespace Go.Proofs.YtckdchkegbdiaaaDoor
open Go Go.RowKit

def Cel.val (c : Cel) : Value := .agg #[.int .i32 c.r, .int .u8 c.f, .int .u8 c.b, .int .u8 c.a]
theorem u8_nat {a : Int} (h : isU8 a) : ∃ n : Fin 256, a = ((n.val : Nat) : Int) := by
  unfold isU8 at h
  exact ⟨⟨a.toNat, by omega⟩, by simp only; omega⟩
theorem and192 {a : Int} (h : isU8 a) : bits .and .u8 a 192 = a / 64 * 64 := by
  obtain ⟨n, rfl⟩ := u8_nat h
  have : ∀ n : Fin 256, bits .and .u8 ((n.val : Nat) : Int) 192 = ((n.val : Nat) : Int) / 64 * 64 := by decide +kernel
  exact this n
theorem and128 {a : Int} (h : isU8 a) : bits .and .u8 a 128 = a / 128 * 128 := by
  obtain ⟨n, rfl⟩ := u8_nat h
  have : ∀ n : Fin 256, bits .and .u8 ((n.val : Nat) : Int) 128 = ((n.val : Nat) : Int) / 128 * 128 := by decide +kernel
  exact this n
theorem and64 {a : Int} (h : isU8 a) : bits .and .u8 a 64 = a / 64 % 2 * 64 := by
  obtain ⟨n, rfl⟩ := u8_nat h
  have : ∀ n : Fin 256, bits .and .u8 ((n.val : Nat) : Int) 64 = ((n.val : Nat) : Int) / 64 % 2 * 64 := by decide +kernel
  exact this n
theorem clear192 {a : Int} (h : isU8 a) : bits .andNot .u8 a 192 = a % 64 := by
  obtain ⟨n, rfl⟩ := u8_nat h
  have : ∀ n : Fin 256, bits .andNot .u8 ((n.val : Nat) : Int) 192 = ((n.val : Nat) : Int) % 64 := by decide +kernel
  exact this n
theorem or64 {a : Int} (h : isU8 a) : bits .or .u8 (a % 64) 64 = a % 64 + 64 := by
  obtain ⟨n, rfl⟩ := u8_nat h
  have : ∀ n : Fin 256, bits .or .u8 (((n.val : Nat) : Int) % 64) 64 = ((n.val : Nat) : Int) % 64 + 64 := by decide +kernel
  exact this n

theorem and64n {a : Int} (h : isU8 a) : bits .andNot .u8 a 64 = a % 64 + a / 128 * 128 := by
  obtain ⟨n, rfl⟩ := u8_nat h
  have : ∀ n : Fin 256, bits .andNot .u8 ((n.val : Nat) : Int) 64 = ((n.val : Nat) : Int) % 64 + ((n.val : Nat) : Int) / 128 * 128 := by decide +kernel
  exact this n
theorem tail_bits {a : Int} (h : isU8 a) : bits .or .u8 (bits .andNot .u8 a 64) 128 = a % 64 + 128 := by
  obtain ⟨n, rfl⟩ := u8_nat h
  have : ∀ n : Fin 256, bits .or .u8 (bits .andNot .u8 ((n.val : Nat) : Int) 64) 128 = ((n.val : Nat) : Int) % 64 + 128 := by decide +kernel
  exact this n
theorem tl_bits {a : Int} (h : isU8 a) : (bits .and .u8 a 128 != 0) = decide (a / 128 = 1) := by
  rw [and128 h]
  unfold isU8 at h
  by_cases e : a / 128 = 1
  · rw [e]; rfl
  · have : a / 128 = 0 := by omega
    rw [this]; rfl
theorem wide_bits {a : Int} (h : isU8 a) : (bits .and .u8 a 64 != 0) = decide (a / 64 % 2 = 1) := by
  rw [and64 h]
  unfold isU8 at h
  by_cases e : a / 64 % 2 = 1
  · rw [e]; rfl
  · have : a / 64 % 2 = 0 := by omega
    rw [this]; rfl
theorem infoCel : (Tryd.prog.info? 25).map (·.size) = some 4 := by kernel_rfl
/-- A struct that is handed back lies in a block of its own. -/
theorem ret_cel {fn : Func} {p : Tmp} (hr : fn.results = #[.cell p 25]) {Q : Ending → World → Prop} {a : Act} {w : World} {g : Nat} {x0 x1 x2 x3 : Value} (hd : a.defers = []) (hp : a.tmps.getD p undef = .pointer (some ⟨g, 0, none⟩))
    (hb : w.heap[g]? = some (.cells #[x0, x1, x2, x3] 25 (0, 0))) (hq : Q (.returned (.agg #[x0, x1, x2, x3])) w) : bodyPost Tryd.prog fn Q .ret a w := by
  obtain ⟨tm, df⟩ := a
  simp only at hd
  subst hd
  exact bodyPost_ret (results_cell_row hr _ _ g 25 _ (0, 0) _ hp hb Tryd.underlying25 rfl infoCel) rfl hq

/-- What a character makes. -/
def makeL (r : Int) (p : Cel) : List Cel := if widthL r = 1 then [⟨r, p.f, p.b, p.a % 64⟩] else if widthL r = 2 then [⟨r, p.f, p.b, p.a % 64 + 64⟩, Cel.tail ⟨r, p.f, p.b, p.a % 64 + 64⟩] else []
def Cel.cells (c : Cel) : List Value := [.int .i32 c.r, .int .u8 c.f, .int .u8 c.b, .int .u8 c.a]
/-- A cell lies in memory. -/
def CelAt (w : World) (g o : Nat) (c : Cel) : Prop := w.rangeAt g o c.cells
theorem CelAt.ext {w w' : World} {g o : Nat} {c : Cel} (h : CelAt w g o c) (hx : Ext w w') : CelAt w' g o c := fun j v hv => hx.cell (h j v hv)
theorem CelAt.only {w w' : World} {g o d : Nat} {c : Cel} (h : CelAt w g o c) (hx : Only d w w') (hg : g ≠ d) : CelAt w' g o c := fun j v hv => hx.cell hg (h j v hv)
theorem CelAt.new (w : World) (c : Cel) : CelAt (w.alloc (.cells #[.int .i32 c.r, .int .u8 c.f, .int .u8 c.b, .int .u8 c.a] 25)) w.heap.size 0 c :=
  fun j v hv => by
    have hb := Go.heap_alloc_new w (.cells #[.int .i32 c.r, .int .u8 c.f, .int .u8 c.b, .int .u8 c.a] 25)
    rw [Nat.zero_add]
    simp only [World.cell?, hb]
    rw [if_neg (by simp), ← Array.getElem?_toList]
    exact hv
theorem CelAt.load {w : World} {g o : Nat} {c : Cel} (h : CelAt w g o c) : (Instr.loadAt 25 (.pointer (some ⟨g, o, none⟩))).run Tryd.prog w = .ok (.agg #[.int .i32 c.r, .int .u8 c.f, .int .u8 c.b, .int .u8 c.a]) w :=
  run_loadAt_mid w g o _ c.cells _ h Tryd.underlying25 rfl infoCel
/-- The load of a cell, in the walk. -/
theorem wpList_load_cel {ops : Array Oper} {rest : List Oper} {op : Oper} {a : Act} {w : World} {Q : Exit → Act → World → Prop} (hgd : op.guard = none) (x : Operand) (ho : op.op = .load 25 x)
    (g o : Nat) (hx : a.eval x = .pointer (some ⟨g, o, none⟩)) (c : Cel) (h : CelAt w g o c)
    (k : wpList Tryd.prog ops Q rest (a.put op.dst (.agg #[.int .i32 c.r, .int .u8 c.f, .int .u8 c.b, .int .u8 c.a])) w) : wpList Tryd.prog ops Q (op :: rest) a w :=
  wpList_load_mid hgd 25 x ho g o hx c.cells _ h Tryd.underlying25 rfl infoCel k
theorem CelAt.loadVar {w : World} {g o : Nat} {c : Cel} (h : CelAt w g o c) : (loadVar 25 ⟨g, o, none⟩).run Tryd.prog w = .ok (.agg #[.int .i32 c.r, .int .u8 c.f, .int .u8 c.b, .int .u8 c.a]) w :=
  run_loadVar_mid w g o _ c.cells _ h Tryd.underlying25 rfl infoCel
theorem CelAt.zero {w : World} {g : Nat} {c : Cel} (h : CelAt w g 0 c) : w.cell? ⟨g, 0, none⟩ = some (.int .i32 c.r) ∧ w.cell? ⟨g, 1, none⟩ = some (.int .u8 c.f) ∧ w.cell? ⟨g, 2, none⟩ = some (.int .u8 c.b) ∧ w.cell? ⟨g, 3, none⟩ = some (.int .u8 c.a) :=
  ⟨h 0 _ rfl, h 1 _ rfl, h 2 _ rfl, h 3 _ rfl⟩
theorem CelAt.r {w : World} {g o : Nat} {c : Cel} (h : CelAt w g o c) : w.cell? ⟨g, o, none⟩ = some (.int .i32 c.r) := h 0 _ rfl
theorem CelAt.f {w : World} {g o : Nat} {c : Cel} (h : CelAt w g o c) : w.cell? ⟨g, o + 1, none⟩ = some (.int .u8 c.f) := h 1 _ rfl
theorem CelAt.b {w : World} {g o : Nat} {c : Cel} (h : CelAt w g o c) : w.cell? ⟨g, o + 2, none⟩ = some (.int .u8 c.b) := h 2 _ rfl
theorem CelAt.a {w : World} {g o : Nat} {c : Cel} (h : CelAt w g o c) : w.cell? ⟨g, o + 3, none⟩ = some (.int .u8 c.a) := h 3 _ rfl
theorem heap_two (w : World) (o1 o2 : Obj) : ((w.alloc o1).alloc o2).heap[w.heap.size + 1]? = some o2 := by
  have := Go.heap_alloc_new (w.alloc o1) o2
  rwa [World.size_alloc] at this

/-- Two cells are the same. -/
def celEq (x y : Cel) : Bool := decide (x = y)
theorem celEq_true {x y : Cel} : celEq x y = true ↔ x = y := by unfold celEq; simp
theorem celEq_false {x y : Cel} : celEq x y = false ↔ ¬ x = y := by unfold celEq; simp
theorem eq_cel (r f b a r' f' b' a' : Int) (w : World) : (Op.equalIn 10000 25 (.agg #[.int .i32 r, .int .u8 f, .int .u8 b, .int .u8 a]) (.agg #[.int .i32 r', .int .u8 f', .int .u8 b', .int .u8 a'])).run Tryd.prog w = .ok (celEq ⟨r, f, b, a⟩ ⟨r', f', b', a'⟩) w := by
  have u3 := Tryd.underlying21
  have a3 := Tryd.isAgg21
  have z3 := Tryd.sizeOf21
  have u4 := Tryd.underlying5
  have a4 := Tryd.isAgg5
  have z4 := Tryd.sizeOf5
  have hS : Tryd.prog.underlying 25 = some (.struct (Tryd.prog.fieldsOf 25)) := by kernel_rfl
  have hp : Tryd.prog.stoodInHeld 25 = false := by kernel_rfl
  rw [show (10000 : Nat) = 9999 + 1 from rfl, run_equalIn_agg w 9999 25 _ _ hS hp]
  simp only [Program.fieldsOf, Tryd.underlying25]
  go_simp
  unfold celEq
  by_cases h1 : r = r' <;> by_cases h2 : f = f' <;> by_cases h3 : b = b' <;> by_cases h4 : a = a' <;> simp [h1, h2, h3, h4]
theorem isTail_of (c : Cel) (w : World) (h : c.ok) : Calls Tryd.prog 48 #[c.val] w fun e w' => e = .returned (.bool c.tl) ∧ Ext w w' := by
  obtain ⟨r, f, b, a⟩ := c
  have H := Lib.hid h.2.2.2; clear h
  unfold Cel.val
  go_enter Tryd.func48, Tryd.ntmps48
  go_wp2
  go_ret
  exact ⟨congrArg (fun x => Ending.returned (.bool x)) (tl_bits H.out), (Ext.refl w).alloc _⟩
theorem isWide_of (c : Cel) (w : World) (h : c.ok) : Calls Tryd.prog 70 #[c.val] w fun e w' => e = .returned (.bool c.wide) ∧ Ext w w' := by
  obtain ⟨r, f, b, a⟩ := c
  have H := Lib.hid h.2.2.2; clear h
  unfold Cel.val
  go_enter Tryd.func70, Tryd.ntmps70
  go_wp2
  go_ret
  exact ⟨congrArg (fun x => Ending.returned (.bool x)) (wide_bits H.out), (Ext.refl w).alloc _⟩
theorem RefTl_of (c : Cel) (w : World) (h : c.ok) : Calls Tryd.prog 41 #[c.val] w fun e w' => e = .returned (.bool c.tl) ∧ Ext w w' := by
  obtain ⟨r, f, b, a⟩ := c
  have H := Lib.hid h.2.2.2; clear h
  unfold Cel.val
  go_enter Tryd.func41, Tryd.ntmps41
  go_wp2
  go_ret
  refine ⟨congrArg (fun x => Ending.returned (.bool x)) ?_, (Ext.refl w).alloc _⟩
  have h1 := H.out
  unfold isU8 at h1
  show (a.tdiv 128 % 256 == 1) = decide (a / 128 = 1)
  rw [Int.tdiv_eq_ediv_of_nonneg h1.1, show a / 128 % 256 = a / 128 by omega]
  rfl
theorem RefWide_of (c : Cel) (w : World) (h : c.ok) : Calls Tryd.prog 42 #[c.val] w fun e w' => e = .returned (.bool c.wide) ∧ Ext w w' := by
  obtain ⟨r, f, b, a⟩ := c
  have H := Lib.hid h.2.2.2; clear h
  unfold Cel.val
  go_enter Tryd.func42, Tryd.ntmps42
  go_wp2
  go_ret
  refine ⟨congrArg (fun x => Ending.returned (.bool x)) ?_, (Ext.refl w).alloc _⟩
  have h1 := H.out
  unfold isU8 at h1
  show (a.tdiv 64 % 2 == 1) = decide (a / 64 % 2 = 1)
  rw [Int.tdiv_eq_ediv_of_nonneg h1.1]
  rfl
theorem tail_of (c : Cel) (w : World) (h : c.ok) : Calls Tryd.prog 36 #[c.val] w fun e w' => e = .returned c.tail.val ∧ Ext w w' := by
  obtain ⟨r, f, b, a⟩ := c
  have H := Lib.hid h.2.2.2; clear h
  generalize hV : Cel.val (Cel.tail _) = V
  unfold Cel.val
  go_enter Tryd.func36, Tryd.ntmps36
  go_wp2
  refine ret_cel rfl rfl rfl (heap_two _ _ _) ⟨?_, ((Ext.refl w).alloc _).alloc _⟩
  rw [← hV, tail_bits H.out]
  rfl
theorem Blank_of (w : World) : Calls Tryd.prog 18 #[] w fun e w' => e = .returned Cel.blank.val ∧ Ext w w' := by
  go_enter Tryd.func18, Tryd.ntmps18
  go_wp2
  exact ret_cel rfl rfl rfl (Go.heap_alloc_new _ _) ⟨rfl, (Ext.refl w).alloc _⟩
theorem RefBlank_of (w : World) : Calls Tryd.prog 19 #[] w fun e w' => e = .returned Cel.blank.val ∧ Ext w w' := by
  go_enter Tryd.func19, Tryd.ntmps19
  go_wp2
  exact ret_cel rfl rfl rfl (Go.heap_alloc_new _ _) ⟨rfl, (Ext.refl w).alloc _⟩
theorem RefTail_of (c : Cel) (w : World) (h : c.ok) : Calls Tryd.prog 37 #[c.val] w fun e w' => e = .returned c.tail.val ∧ Ext w w' := by
  obtain ⟨r, f, b, a⟩ := c
  have H := Lib.hid h.2.2.2; clear h
  generalize hV : Cel.val (Cel.tail _) = V
  unfold Cel.val
  go_enter Tryd.func37, Tryd.ntmps37
  go_wp2
  refine ret_cel rfl rfl rfl (heap_two _ _ _) ⟨?_, ((Ext.refl w).alloc _).alloc _⟩
  have h1 := H.out
  unfold isU8 at h1
  rw [← hV, Int.tmod_eq_emod_of_nonneg h1.1]
  rw [show (a % 64 + 128) % 256 = a % 64 + 128 by omega]
  rfl
set_option maxHeartbeats 1000000 in
set_option maxRecDepth 100000 in
theorem Check_of (c : Cel) (w : World) (h : c.ok) (hS : Spans w) : Calls Tryd.prog 16 #[c.val] w fun e w' => e = .returned (.bool c.check) ∧ Ext w w' := by
  obtain ⟨r, f, b, a⟩ := c
  have H := Lib.hid (And.intro h.2.2.2 hS)
  have h1 := h.2.2.2
  unfold isU8 at h1
  simp only at h1
  have e0 := and192 h.2.2.2
  clear h hS
  generalize hV : Cel.check _ = V
  have HV := Lib.hid hV; clear hV
  simp only at e0
  have h4 : a / 64 = 0 ∨ a / 64 = 1 ∨ a / 64 = 2 ∨ a / 64 = 3 := by omega
  rcases h4 with h4 | h4 | h4 | h4
  all_goals
    rw [h4] at e0
    have H4 := Lib.hid h4; clear h4 h1
    unfold Cel.val
    go_enter Tryd.func16, Tryd.ntmps16
  · go_wp2_with fail
    refine (Width_any _ _ (H.out.2.ext ((Ext.refl w).alloc _))).mono ?_
    rintro e w2 ⟨rfl, hx⟩
    have hq : (widthL r == 1) = V := by
      rw [← HV.out]
      have := H4.out
      have t1 : a / 128 = 0 := by omega
      unfold Cel.check Cel.tl Cel.wide
      simp [H4.out, t1]
      rfl
    have HQ := Lib.hid hq; clear hq
    generalize widthL r = X at HQ ⊢
    go_wp2
    go_ret
    exact ⟨congrArg (fun x => Ending.returned (.bool x)) HQ.out, ((Ext.refl w).alloc _).trans hx⟩
  · go_wp2_with fail
    refine (Width_any _ _ (H.out.2.ext ((Ext.refl w).alloc _))).mono ?_
    rintro e w2 ⟨rfl, hx⟩
    have hq : (widthL r == 2) = V := by
      rw [← HV.out]
      have := H4.out
      have t1 : a / 128 = 0 := by omega
      unfold Cel.check Cel.tl Cel.wide
      simp [H4.out, t1]
      rfl
    have HQ := Lib.hid hq; clear hq
    generalize widthL r = X at HQ ⊢
    go_wp2
    go_ret
    exact ⟨congrArg (fun x => Ending.returned (.bool x)) HQ.out, ((Ext.refl w).alloc _).trans hx⟩
  · go_wp2
    go_ret
    refine ⟨?_, (Ext.refl w).alloc _⟩
    have hq : (r == 0) = V := by
      rw [← HV.out]
      have := H4.out
      have t1 : a / 128 = 1 := by omega
      unfold Cel.check Cel.tl Cel.wide
      simp [H4.out, t1]
      rfl
    exact congrArg (fun x => Ending.returned (.bool x)) hq
  · go_wp2
    go_ret
    refine ⟨?_, (Ext.refl w).alloc _⟩
    have hq : false = V := by
      rw [← HV.out]
      have := H4.out
      have t1 : a / 128 = 1 := by omega
      unfold Cel.check Cel.tl Cel.wide
      simp [H4.out, t1]
    exact congrArg (fun x => Ending.returned (.bool x)) hq
theorem RefWidth_is (r : Int) (w : World) (hr : isI32 r) : Calls Tryd.prog 31 #[.int .i32 r] w fun e w' => e = .returned (.int .i64 (widthL r)) ∧ w' = w := by
  rw [widthL_eq r hr]
  exact RefWidth_any r w hr
set_option maxHeartbeats 2000000 in
set_option maxRecDepth 100000 in
theorem RefCheck_of (c : Cel) (w : World) (h : c.ok) : Calls Tryd.prog 17 #[c.val] w fun e w' => e = .returned (.bool c.check) ∧ Ext w w' := by
  obtain ⟨r, f, b, a⟩ := c
  have hT := fun W => RefTl_of ⟨r, f, b, a⟩ W h
  have hW := fun W => RefWide_of ⟨r, f, b, a⟩ W h
  have H := Lib.hid (And.intro h (And.intro hT hW))
  clear h hT hW
  generalize hV : Cel.check _ = V
  unfold Cel.check at hV
  generalize hT0 : Cel.tl _ = T at hV
  generalize hW0 : Cel.wide _ = U at hV
  simp only at hV
  have HV := Lib.hid (And.intro hV (And.intro hT0 hW0)); clear hV hT0 hW0
  unfold Cel.val
  go_enter Tryd.func17, Tryd.ntmps17
  go_wp2_with fail
  refine (RefWidth_is _ _ H.out.1.1).mono ?_
  rintro e w2 ⟨rfl, rfl⟩
  simp only
  have X1 : ∃ X, X = widthL r := ⟨_, rfl⟩
  obtain ⟨X, hX⟩ := X1
  rw [← hX]
  have HX := Lib.hid hX; clear hX
  go_wp2_with fail
  refine (H.out.2.1 _).mono ?_
  rintro e w3 ⟨rfl, hx3⟩
  obtain ⟨l0, l1, l2, l3⟩ := ((CelAt.new w ⟨r, f, b, a⟩).ext hx3).zero
  simp only at l0 l1 l2 l3
  have H3 := Lib.hid (((Ext.refl w).alloc _).trans hx3); clear hx3
  rw [HV.out.2.1]
  cases T with
  | true =>
    go_wp2_with fail
    refine (H.out.2.2 _).mono ?_
    rintro e w4 ⟨rfl, hx4⟩
    have m0 := hx4.cell l0
    have H4 := Lib.hid (H3.out.trans hx4); clear hx4 l0 l1 l2 l3
    rw [HV.out.2.2]
    cases U with
    | true =>
      go_wp2
      go_ret
      exact ⟨congrArg (fun x => Ending.returned (.bool x)) (by rw [← HV.out.1]; rfl), H4.out⟩
    | false =>
      go_wp2
      go_ret
      exact ⟨congrArg (fun x => Ending.returned (.bool x)) (by rw [← HV.out.1]; rfl), H4.out⟩
  | false =>
    have hv := HV.out.1
    rw [← HX.out] at hv
    simp only [Bool.false_eq_true, if_false] at hv
    have HV2 := Lib.hid hv; clear hv
    by_cases x1 : X = 1
    · subst x1
      cases U with
      | true =>
        go_wp2_with fail
        refine (H.out.2.2 _).mono ?_
        rintro e w4 ⟨rfl, hx4⟩
        have H4 := Lib.hid (H3.out.trans hx4); clear hx4 l0 l1 l2 l3
        rw [HV.out.2.2]
        go_wp2
        go_ret
        exact ⟨congrArg (fun x => Ending.returned (.bool x)) (by rw [← HV2.out]; rfl), H4.out⟩
      | false =>
        go_wp2_with fail
        refine (H.out.2.2 _).mono ?_
        rintro e w4 ⟨rfl, hx4⟩
        have H4 := Lib.hid (H3.out.trans hx4); clear hx4 l0 l1 l2 l3
        rw [HV.out.2.2]
        go_wp2
        go_ret
        exact ⟨congrArg (fun x => Ending.returned (.bool x)) (by rw [← HV2.out]; rfl), H4.out⟩
    · have e1 : (X == 1) = false := by simpa using x1
      by_cases x2 : X = 2
      · subst x2
        go_wp2_with fail
        refine (H.out.2.2 _).mono ?_
        rintro e w4 ⟨rfl, hx4⟩
        have H4 := Lib.hid (H3.out.trans hx4); clear hx4 l0 l1 l2 l3
        rw [HV.out.2.2]
        go_wp2
        go_ret
        refine ⟨congrArg (fun x => Ending.returned (.bool x)) ?_, H4.out⟩
        rw [← HV2.out]
        cases U <;> rfl
      · have e2 : (X == 2) = false := by simpa using x2
        go_wp2
        go_ret
        refine ⟨congrArg (fun x => Ending.returned (.bool x)) ?_, H3.out⟩
        rw [← HV2.out]
        cases U <;> simp [x1, x2]
end Go.Proofs.YtckdchkegbdiaaaDoor
