/- What a number makes of a pen: pen.obeyed. -/
import Derived.Test.YtgnknliaeoblhabDoorPenC
import Derived.StillTailTactics
namespace Go.Proofs.YtgnknliaeoblhabDoor
open Go Go.RowKit

theorem infoCell4 : (Tryd.prog.info? 23).map (·.size) = some 4 := by kernel_rfl
/-- A cell alone that is handed back. -/
theorem ret_cell1 {fn : Func} {p : Tmp} (hr : fn.results = #[.cell p 23]) {Q : Ending → World → Prop} {a : Act} {w : World} {G : Nat} {c : Cel} (hd : a.defers = []) (hp : a.tmps.getD p undef = .pointer (some ⟨G, 0, none⟩))
    (hb : Blk w G 23 #[.int .i32 c.r, .int .u8 c.f, .int .u8 c.b, .int .u8 c.a]) (hq : Q (.returned c.val) w) : bodyPost Tryd.prog fn Q .ret a w := by
  obtain ⟨tm, df⟩ := a
  simp only at hd hp
  subst hd
  exact bodyPost_ret (results_cell_row hr _ _ G 23 _ (0, 0) _ hp hb Tryd.underlying23 rfl infoCell4) rfl hq
/-- Two boxes: the pen, and what is handed back. -/
structure Two (w W : World) (B : Nat) (l : List Int) (c : Cel) : Prop where
  take : TakeAt W B l
  only : Only B w W
  pen : Blk W w.heap.size 23 #[.int .i32 c.r, .int .u8 c.f, .int .u8 c.b, .int .u8 c.a]
  out : Blk W (w.heap.size + 1) 23 #[.int .i32 0, .int .u8 0, .int .u8 0, .int .u8 0]
theorem Only.set_new {B d : Nat} {w W : World} (h : Only B w W) (hd : w.heap.size ≤ d) (i : Nat) (v : Value) : Only B w (W.setCell ⟨d, i, none⟩ v) :=
  ⟨h.os, h.tape, h.output, by simpa [World.setCell] using h.size, fun k hk hl => (Below.heap_setCell _ _ _ _ (show k ≠ d by omega)).trans (h.block k hk hl)⟩
theorem Two.start {w : World} {B : Nat} {l : List Int} (h : TakeAt w B l) (r f b a : Int) : Two w ((w.alloc (.cells #[.int .i32 r, .int .u8 f, .int .u8 b, .int .u8 a] 23)).alloc (.cells #[.int .i32 0, .int .u8 0, .int .u8 0, .int .u8 0] 23)) B l ⟨r, f, b, a⟩ :=
  ⟨h.ext (((Ext.refl w).alloc _).alloc _), ((Only.refl B w).alloc _).alloc _, Blk.ext (Go.heap_alloc_new w _) ((Ext.refl _).alloc _), heap_two _ _ _⟩
theorem Two.next {w W W' : World} {B : Nat} {l m : List Int} {c : Cel} (h : Two w W B l c) (hB : B < w.heap.size) (ht : TakeAt W' B m) (ho : Only B W W') : Two w W' B m c :=
  ⟨ht, h.only.trans ho, h.pen.only ho (by omega), h.out.only ho (by omega)⟩
/-- The pen's cells turned: the world behind it, and what it hands back. -/
theorem Two.ended {w W : World} {B : Nat} {l : List Int} {r f b a : Int} (h : Two w W B l ⟨r, f, b, a⟩) (hB : B < w.heap.size) (i : Nat) (v : Value) (c : Cel) (hc : (#[.int .i32 r, .int .u8 f, .int .u8 b, .int .u8 a] : Array Value).setIfInBounds i v = #[.int .i32 c.r, .int .u8 c.f, .int .u8 c.b, .int .u8 c.a]) : Two w (W.setCell ⟨w.heap.size, i, none⟩ v) B l c := by
  have ho := (Only.refl w.heap.size W).setCell (i := i) v
  refine ⟨h.take.only ho (.inl hB), h.only.set_new (Nat.le_refl _) i v, ?_, h.out.only ho (by omega)⟩
  have := Blk.set_ h.pen i v
  rwa [hc] at this
theorem Two.told {w W : World} {B : Nat} {l : List Int} {c : Cel} (h : Two w W B l c) (hB : B < w.heap.size) (r f b a : Int) :
    Blk ((((W.setCell ⟨w.heap.size + 1, 0, none⟩ (.int .i32 r)).setCell ⟨w.heap.size + 1, 1, none⟩ (.int .u8 f)).setCell ⟨w.heap.size + 1, 2, none⟩ (.int .u8 b)).setCell ⟨w.heap.size + 1, 3, none⟩ (.int .u8 a)) (w.heap.size + 1) 23 #[.int .i32 r, .int .u8 f, .int .u8 b, .int .u8 a] ∧
    TakeAt ((((W.setCell ⟨w.heap.size + 1, 0, none⟩ (.int .i32 r)).setCell ⟨w.heap.size + 1, 1, none⟩ (.int .u8 f)).setCell ⟨w.heap.size + 1, 2, none⟩ (.int .u8 b)).setCell ⟨w.heap.size + 1, 3, none⟩ (.int .u8 a)) B l ∧
    Only B w ((((W.setCell ⟨w.heap.size + 1, 0, none⟩ (.int .i32 r)).setCell ⟨w.heap.size + 1, 1, none⟩ (.int .u8 f)).setCell ⟨w.heap.size + 1, 2, none⟩ (.int .u8 b)).setCell ⟨w.heap.size + 1, 3, none⟩ (.int .u8 a)) := by
  have ho := ((((Only.refl (w.heap.size + 1) W).setCell (i := 0) (.int .i32 r)).setCell (i := 1) (.int .u8 f)).setCell (i := 2) (.int .u8 b)).setCell (i := 3) (.int .u8 a)
  exact ⟨(((h.out.set_ 0 (.int .i32 r)).set_ 1 (.int .u8 f)).set_ 2 (.int .u8 b)).set_ 3 (.int .u8 a), h.take.only ho (.inl (by omega)), (((h.only.set_new (Nat.le_succ _) 0 _).set_new (Nat.le_succ _) 1 _).set_new (Nat.le_succ _) 2 _).set_new (Nat.le_succ _) 3 _⟩
theorem Two.ext {w W W' : World} {B : Nat} {l : List Int} {c : Cel} (h : Two w W B l c) (hx : Ext W W') : Two w W' B l c :=
  ⟨h.take.ext hx, h.only.ext hx, h.pen.ext hx, h.out.ext hx⟩
theorem Two.fin {w W : World} {B : Nat} {l : List Int} {r f b a : Int} (h : Two w W B l ⟨r, f, b, a⟩) (hB : B < w.heap.size) (i : Nat) (v : Value) (c : Cel) (hc : (#[.int .i32 r, .int .u8 f, .int .u8 b, .int .u8 a] : Array Value).setIfInBounds i v = #[.int .i32 c.r, .int .u8 c.f, .int .u8 c.b, .int .u8 c.a]) :
    Blk (((((W.setCell ⟨w.heap.size, i, none⟩ v).setCell ⟨w.heap.size + 1, 0, none⟩ (.int .i32 c.r)).setCell ⟨w.heap.size + 1, 1, none⟩ (.int .u8 c.f)).setCell ⟨w.heap.size + 1, 2, none⟩ (.int .u8 c.b)).setCell ⟨w.heap.size + 1, 3, none⟩ (.int .u8 c.a)) (w.heap.size + 1) 23 #[.int .i32 c.r, .int .u8 c.f, .int .u8 c.b, .int .u8 c.a] ∧
    TakeAt (((((W.setCell ⟨w.heap.size, i, none⟩ v).setCell ⟨w.heap.size + 1, 0, none⟩ (.int .i32 c.r)).setCell ⟨w.heap.size + 1, 1, none⟩ (.int .u8 c.f)).setCell ⟨w.heap.size + 1, 2, none⟩ (.int .u8 c.b)).setCell ⟨w.heap.size + 1, 3, none⟩ (.int .u8 c.a)) B l ∧
    Only B w (((((W.setCell ⟨w.heap.size, i, none⟩ v).setCell ⟨w.heap.size + 1, 0, none⟩ (.int .i32 c.r)).setCell ⟨w.heap.size + 1, 1, none⟩ (.int .u8 c.f)).setCell ⟨w.heap.size + 1, 2, none⟩ (.int .u8 c.b)).setCell ⟨w.heap.size + 1, 3, none⟩ (.int .u8 c.a)) :=
  Two.told (h.ended hB i v c hc) hB c.r c.f c.b c.a
/-- Both boxes new, whatever they hold. -/
theorem fold_told {w : World} {B : Nat} {l : List Int} (h : TakeAt w B l) (xs ys : Array Value) : Blk ((w.alloc (.cells xs 23)).alloc (.cells ys 23)) (w.heap.size + 1) 23 ys ∧ TakeAt ((w.alloc (.cells xs 23)).alloc (.cells ys 23)) B l ∧ Only B w ((w.alloc (.cells xs 23)).alloc (.cells ys 23)) :=
  ⟨heap_two _ _ _, h.ext (((Ext.refl w).alloc _).alloc _), ((Only.refl B w).alloc _).alloc _⟩
set_option maxHeartbeats 4000000 in
set_option maxRecDepth 100000 in
theorem obeyed_zero (r f b a : Int) (B : Nat) (l : List Int) (w : World) (h : TakeAt w B l) : Calls Tryd.prog 18 #[.agg #[.int .i32 r, .int .u8 f, .int .u8 b, .int .u8 a], .int .i64 0, takeV B] w fun e w' => e = .returned (Cel.val ⟨r, 0, 0, 0⟩) ∧ TakeAt w' B l ∧ Only B w w' := by
  have hB := h.lt
  have T := Lib.hid h; clear h hB
  go_enter Tryd.func18, Tryd.ntmps18
  go_wp2
  exact ret_cell1 rfl rfl rfl (fold_told T.out _ _).1 ⟨rfl, (fold_told T.out _ _).2⟩
set_option maxHeartbeats 4000000 in
set_option maxRecDepth 100000 in
theorem obeyed_39 (r f b a : Int) (B : Nat) (l : List Int) (w : World) (h : TakeAt w B l) : Calls Tryd.prog 18 #[.agg #[.int .i32 r, .int .u8 f, .int .u8 b, .int .u8 a], .int .i64 39, takeV B] w fun e w' => e = .returned (Cel.val ⟨r, 0, b, a⟩) ∧ TakeAt w' B l ∧ Only B w w' := by
  have hB := h.lt
  have T := Lib.hid h; clear h hB
  go_enter Tryd.func18, Tryd.ntmps18
  go_wp2
  exact ret_cell1 rfl rfl rfl (fold_told T.out _ _).1 ⟨rfl, (fold_told T.out _ _).2⟩
set_option maxHeartbeats 4000000 in
set_option maxRecDepth 100000 in
theorem obeyed_49 (r f b a : Int) (B : Nat) (l : List Int) (w : World) (h : TakeAt w B l) : Calls Tryd.prog 18 #[.agg #[.int .i32 r, .int .u8 f, .int .u8 b, .int .u8 a], .int .i64 49, takeV B] w fun e w' => e = .returned (Cel.val ⟨r, f, 0, a⟩) ∧ TakeAt w' B l ∧ Only B w w' := by
  have hB := h.lt
  have T := Lib.hid h; clear h hB
  go_enter Tryd.func18, Tryd.ntmps18
  go_wp2
  exact ret_cell1 rfl rfl rfl (fold_told T.out _ _).1 ⟨rfl, (fold_told T.out _ _).2⟩
set_option maxHeartbeats 4000000 in
set_option maxRecDepth 100000 in
theorem obeyed_30 (r f b a : Int) (n : Int) (B : Nat) (l : List Int) (w : World) (h : TakeAt w B l) (hn : 30 ≤ n ∧ n ≤ 37) : Calls Tryd.prog 18 #[.agg #[.int .i32 r, .int .u8 f, .int .u8 b, .int .u8 a], .int .i64 n, takeV B] w fun e w' => e = .returned (Cel.val ⟨r, colP (n - 30), b, a⟩) ∧ TakeAt w' B l ∧ Only B w w' := by
  have hB := h.lt
  have T := Lib.hid h; clear h hB
  have e0 : (n == 0) = false := by simp; omega
  have e38 : (n == 38) = false := by simp; omega
  have e39 : (n == 39) = false := by simp; omega
  have e48 : (n == 48) = false := by simp; omega
  have e49 : (n == 49) = false := by simp; omega
  have d30 : decide (30 ≤ n) = true := decide_eq_true (by omega)
  have d37 : decide (n ≤ 37) = true := decide_eq_true (by omega)
  have d40 : decide (40 ≤ n) = false := decide_eq_false (by omega)
  have d90 : decide (90 ≤ n) = false := decide_eq_false (by omega)
  have d100 : decide (100 ≤ n) = false := decide_eq_false (by omega)
  have HC := Lib.hid (fun V => colour_of (n - 30) V (by omega))
  have hsub : wrap64 (n - 30) = n - 30 := by unfold wrap64; omega
  generalize hm : n - 30 = m at HC hsub ⊢
  generalize colP m = q at HC ⊢
  clear hn
  go_enter Tryd.func18, Tryd.ntmps18
  go_wp2_with fail
  refine (HC.out _).mono ?_
  rintro e w1 ⟨rfl, rfl⟩
  go_wp2
  exact ret_cell1 rfl rfl rfl (fold_told T.out _ _).1 ⟨rfl, (fold_told T.out _ _).2⟩
set_option maxHeartbeats 4000000 in
set_option maxRecDepth 100000 in
theorem obeyed_40 (r f b a : Int) (n : Int) (B : Nat) (l : List Int) (w : World) (h : TakeAt w B l) (hn : 40 ≤ n ∧ n ≤ 47) : Calls Tryd.prog 18 #[.agg #[.int .i32 r, .int .u8 f, .int .u8 b, .int .u8 a], .int .i64 n, takeV B] w fun e w' => e = .returned (Cel.val ⟨r, f, colP (n - 40), a⟩) ∧ TakeAt w' B l ∧ Only B w w' := by
  have hB := h.lt
  have T := Lib.hid h; clear h hB
  have e0 : (n == 0) = false := by simp; omega
  have e38 : (n == 38) = false := by simp; omega
  have e39 : (n == 39) = false := by simp; omega
  have e48 : (n == 48) = false := by simp; omega
  have e49 : (n == 49) = false := by simp; omega
  have d30 : decide (30 ≤ n) = true := decide_eq_true (by omega)
  have d37 : decide (n ≤ 37) = false := decide_eq_false (by omega)
  have d40 : decide (40 ≤ n) = true := decide_eq_true (by omega)
  have d47 : decide (n ≤ 47) = true := decide_eq_true (by omega)
  have d90 : decide (90 ≤ n) = false := decide_eq_false (by omega)
  have d100 : decide (100 ≤ n) = false := decide_eq_false (by omega)
  have HC := Lib.hid (fun V => colour_of (n - 40) V (by omega))
  have hsub : wrap64 (n - 40) = n - 40 := by unfold wrap64; omega
  generalize hm : n - 40 = m at HC hsub ⊢
  generalize colP m = q at HC ⊢
  clear hn
  go_enter Tryd.func18, Tryd.ntmps18
  go_wp2_with fail
  refine (HC.out _).mono ?_
  rintro e w1 ⟨rfl, rfl⟩
  go_wp2
  exact ret_cell1 rfl rfl rfl (fold_told T.out _ _).1 ⟨rfl, (fold_told T.out _ _).2⟩
set_option maxHeartbeats 4000000 in
set_option maxRecDepth 100000 in
theorem obeyed_90 (r f b a : Int) (n : Int) (B : Nat) (l : List Int) (w : World) (h : TakeAt w B l) (hn : 90 ≤ n ∧ n ≤ 97) : Calls Tryd.prog 18 #[.agg #[.int .i32 r, .int .u8 f, .int .u8 b, .int .u8 a], .int .i64 n, takeV B] w fun e w' => e = .returned (Cel.val ⟨r, colP (n - 82), b, a⟩) ∧ TakeAt w' B l ∧ Only B w w' := by
  have hB := h.lt
  have T := Lib.hid h; clear h hB
  have e0 : (n == 0) = false := by simp; omega
  have e38 : (n == 38) = false := by simp; omega
  have e39 : (n == 39) = false := by simp; omega
  have e48 : (n == 48) = false := by simp; omega
  have e49 : (n == 49) = false := by simp; omega
  have d30 : decide (30 ≤ n) = true := decide_eq_true (by omega)
  have d37 : decide (n ≤ 37) = false := decide_eq_false (by omega)
  have d40 : decide (40 ≤ n) = true := decide_eq_true (by omega)
  have d47 : decide (n ≤ 47) = false := decide_eq_false (by omega)
  have d90 : decide (90 ≤ n) = true := decide_eq_true (by omega)
  have d97 : decide (n ≤ 97) = true := decide_eq_true (by omega)
  have d100 : decide (100 ≤ n) = false := decide_eq_false (by omega)
  have HC := Lib.hid (fun V => colour_of (n - 82) V (by omega))
  have hsub : wrap64 (n - 82) = n - 82 := by unfold wrap64; omega
  generalize hm : n - 82 = m at HC hsub ⊢
  generalize colP m = q at HC ⊢
  clear hn
  go_enter Tryd.func18, Tryd.ntmps18
  go_wp2_with fail
  refine (HC.out _).mono ?_
  rintro e w1 ⟨rfl, rfl⟩
  go_wp2
  exact ret_cell1 rfl rfl rfl (fold_told T.out _ _).1 ⟨rfl, (fold_told T.out _ _).2⟩
set_option maxHeartbeats 4000000 in
set_option maxRecDepth 100000 in
theorem obeyed_100 (r f b a : Int) (n : Int) (B : Nat) (l : List Int) (w : World) (h : TakeAt w B l) (hn : 100 ≤ n ∧ n ≤ 107) : Calls Tryd.prog 18 #[.agg #[.int .i32 r, .int .u8 f, .int .u8 b, .int .u8 a], .int .i64 n, takeV B] w fun e w' => e = .returned (Cel.val ⟨r, f, colP (n - 92), a⟩) ∧ TakeAt w' B l ∧ Only B w w' := by
  have hB := h.lt
  have T := Lib.hid h; clear h hB
  have e0 : (n == 0) = false := by simp; omega
  have e38 : (n == 38) = false := by simp; omega
  have e39 : (n == 39) = false := by simp; omega
  have e48 : (n == 48) = false := by simp; omega
  have e49 : (n == 49) = false := by simp; omega
  have d30 : decide (30 ≤ n) = true := decide_eq_true (by omega)
  have d37 : decide (n ≤ 37) = false := decide_eq_false (by omega)
  have d40 : decide (40 ≤ n) = true := decide_eq_true (by omega)
  have d47 : decide (n ≤ 47) = false := decide_eq_false (by omega)
  have d90 : decide (90 ≤ n) = true := decide_eq_true (by omega)
  have d97 : decide (n ≤ 97) = false := decide_eq_false (by omega)
  have d100 : decide (100 ≤ n) = true := decide_eq_true (by omega)
  have d107 : decide (n ≤ 107) = true := decide_eq_true (by omega)
  have HC := Lib.hid (fun V => colour_of (n - 92) V (by omega))
  have hsub : wrap64 (n - 92) = n - 92 := by unfold wrap64; omega
  generalize hm : n - 92 = m at HC hsub ⊢
  generalize colP m = q at HC ⊢
  clear hn
  go_enter Tryd.func18, Tryd.ntmps18
  go_wp2_with fail
  refine (HC.out _).mono ?_
  rintro e w1 ⟨rfl, rfl⟩
  go_wp2
  exact ret_cell1 rfl rfl rfl (fold_told T.out _ _).1 ⟨rfl, (fold_told T.out _ _).2⟩
set_option maxHeartbeats 4000000 in
set_option maxRecDepth 100000 in
theorem obeyed_38 (r f b a : Int) (B : Nat) (l : List Int) (w : World) (h : TakeAt w B l) : Calls Tryd.prog 18 #[.agg #[.int .i32 r, .int .u8 f, .int .u8 b, .int .u8 a], .int .i64 38, takeV B] w fun e w' => e = .returned (Cel.val ⟨r, (chosenP f l).1, b, a⟩) ∧ TakeAt w' B (chosenP f l).2 ∧ Only B w w' := by
  have hB := h.lt
  have T := Lib.hid (Two.start h r f b a)
  have HB := Lib.hid hB; clear h hB
  have HC := Lib.hid (chosen_of f B l _ T.out.take)
  generalize chosenP f l = q at HC ⊢
  obtain ⟨q, m⟩ := q
  go_enter Tryd.func18, Tryd.ntmps18
  go_wp2_with fail
  refine HC.out.mono ?_
  rintro e w1 ⟨rfl, ht, ho⟩
  have T2 := Lib.hid (T.out.next HB.out ht ho); clear ht ho
  have k0 : _ = some (Value.int .i32 r) := T2.out.pen.cell 0
  have f0 := T2.out.pen.frozen 0
  have k1 : _ = some (Value.int .u8 f) := T2.out.pen.cell 1
  have f1 := T2.out.pen.frozen 1
  have k2 : _ = some (Value.int .u8 b) := T2.out.pen.cell 2
  have f2 := T2.out.pen.frozen 2
  have k3 : _ = some (Value.int .u8 a) := T2.out.pen.cell 3
  have f3 := T2.out.pen.frozen 3
  have o0 : _ = some (Value.int .i32 0) := T2.out.out.cell 0
  have p0 := T2.out.out.frozen 0
  have o1 : _ = some (Value.int .u8 0) := T2.out.out.cell 1
  have p1 := T2.out.out.frozen 1
  have o2 : _ = some (Value.int .u8 0) := T2.out.out.cell 2
  have p2 := T2.out.out.frozen 2
  have o3 : _ = some (Value.int .u8 0) := T2.out.out.cell 3
  have p3 := T2.out.out.frozen 3
  go_wp2
  exact ret_cell1 rfl rfl rfl (T2.out.fin HB.out 1 (.int .u8 q) ⟨r, q, b, a⟩ rfl).1 ⟨rfl, (T2.out.fin HB.out 1 (.int .u8 q) ⟨r, q, b, a⟩ rfl).2⟩
set_option maxHeartbeats 4000000 in
set_option maxRecDepth 100000 in
theorem obeyed_48 (r f b a : Int) (B : Nat) (l : List Int) (w : World) (h : TakeAt w B l) : Calls Tryd.prog 18 #[.agg #[.int .i32 r, .int .u8 f, .int .u8 b, .int .u8 a], .int .i64 48, takeV B] w fun e w' => e = .returned (Cel.val ⟨r, f, (chosenP b l).1, a⟩) ∧ TakeAt w' B (chosenP b l).2 ∧ Only B w w' := by
  have hB := h.lt
  have T := Lib.hid (Two.start h r f b a)
  have HB := Lib.hid hB; clear h hB
  have HC := Lib.hid (chosen_of b B l _ T.out.take)
  generalize chosenP b l = q at HC ⊢
  obtain ⟨q, m⟩ := q
  go_enter Tryd.func18, Tryd.ntmps18
  go_wp2_with fail
  refine HC.out.mono ?_
  rintro e w1 ⟨rfl, ht, ho⟩
  have T2 := Lib.hid (T.out.next HB.out ht ho); clear ht ho
  have k0 : _ = some (Value.int .i32 r) := T2.out.pen.cell 0
  have f0 := T2.out.pen.frozen 0
  have k1 : _ = some (Value.int .u8 f) := T2.out.pen.cell 1
  have f1 := T2.out.pen.frozen 1
  have k2 : _ = some (Value.int .u8 b) := T2.out.pen.cell 2
  have f2 := T2.out.pen.frozen 2
  have k3 : _ = some (Value.int .u8 a) := T2.out.pen.cell 3
  have f3 := T2.out.pen.frozen 3
  have o0 : _ = some (Value.int .i32 0) := T2.out.out.cell 0
  have p0 := T2.out.out.frozen 0
  have o1 : _ = some (Value.int .u8 0) := T2.out.out.cell 1
  have p1 := T2.out.out.frozen 1
  have o2 : _ = some (Value.int .u8 0) := T2.out.out.cell 2
  have p2 := T2.out.out.frozen 2
  have o3 : _ = some (Value.int .u8 0) := T2.out.out.cell 3
  have p3 := T2.out.out.frozen 3
  go_wp2
  exact ret_cell1 rfl rfl rfl (T2.out.fin HB.out 2 (.int .u8 q) ⟨r, f, q, a⟩ rfl).1 ⟨rfl, (T2.out.fin HB.out 2 (.int .u8 q) ⟨r, f, q, a⟩ rfl).2⟩
set_option maxHeartbeats 4000000 in
set_option maxRecDepth 100000 in
theorem obeyed_n0 (r f b a : Int) (n : Int) (B : Nat) (l : List Int) (w : World) (h : TakeAt w B l) (hW : Ways w) (hn : n < 0) : Calls Tryd.prog 18 #[.agg #[.int .i32 r, .int .u8 f, .int .u8 b, .int .u8 a], .int .i64 n, takeV B] w fun e w' => e = .returned (Cel.val ⟨r, f, b, drawnP a n⟩) ∧ TakeAt w' B l ∧ Only B w w' := by
  have hB := h.lt
  have T := Lib.hid (Two.start h r f b a)
  have HB := Lib.hid hB; clear h hB
  have e0 : (n == 0) = false := by simp; omega
  have e38 : (n == 38) = false := by simp; omega
  have e39 : (n == 39) = false := by simp; omega
  have e48 : (n == 48) = false := by simp; omega
  have e49 : (n == 49) = false := by simp; omega
  have d30 : decide (30 ≤ n) = false := decide_eq_false (by omega)
  have d40 : decide (40 ≤ n) = false := decide_eq_false (by omega)
  have d90 : decide (90 ≤ n) = false := decide_eq_false (by omega)
  have d100 : decide (100 ≤ n) = false := decide_eq_false (by omega)
  have HC := Lib.hid (drawn_of a n _ (hW.ext (((Ext.refl w).alloc (.cells #[.int .i32 r, .int .u8 f, .int .u8 b, .int .u8 a] 23)).alloc (.cells #[.int .i32 0, .int .u8 0, .int .u8 0, .int .u8 0] 23))))
  generalize drawnP a n = q at HC ⊢
  clear hn hW
  go_enter Tryd.func18, Tryd.ntmps18
  go_wp2_with fail
  refine HC.out.mono ?_
  rintro e w1 ⟨rfl, hx⟩
  have T2 := Lib.hid (T.out.ext hx); clear hx
  have k0 : _ = some (Value.int .i32 r) := T2.out.pen.cell 0
  have f0 := T2.out.pen.frozen 0
  have k1 : _ = some (Value.int .u8 f) := T2.out.pen.cell 1
  have f1 := T2.out.pen.frozen 1
  have k2 : _ = some (Value.int .u8 b) := T2.out.pen.cell 2
  have f2 := T2.out.pen.frozen 2
  have k3 : _ = some (Value.int .u8 a) := T2.out.pen.cell 3
  have f3 := T2.out.pen.frozen 3
  have o0 : _ = some (Value.int .i32 0) := T2.out.out.cell 0
  have p0 := T2.out.out.frozen 0
  have o1 : _ = some (Value.int .u8 0) := T2.out.out.cell 1
  have p1 := T2.out.out.frozen 1
  have o2 : _ = some (Value.int .u8 0) := T2.out.out.cell 2
  have p2 := T2.out.out.frozen 2
  have o3 : _ = some (Value.int .u8 0) := T2.out.out.cell 3
  have p3 := T2.out.out.frozen 3
  go_wp2
  exact ret_cell1 rfl rfl rfl (T2.out.fin HB.out 3 (.int .u8 q) ⟨r, f, b, q⟩ rfl).1 ⟨rfl, (T2.out.fin HB.out 3 (.int .u8 q) ⟨r, f, b, q⟩ rfl).2⟩
set_option maxHeartbeats 4000000 in
set_option maxRecDepth 100000 in
theorem obeyed_n1 (r f b a : Int) (n : Int) (B : Nat) (l : List Int) (w : World) (h : TakeAt w B l) (hW : Ways w) (hn : 1 ≤ n ∧ n ≤ 29) : Calls Tryd.prog 18 #[.agg #[.int .i32 r, .int .u8 f, .int .u8 b, .int .u8 a], .int .i64 n, takeV B] w fun e w' => e = .returned (Cel.val ⟨r, f, b, drawnP a n⟩) ∧ TakeAt w' B l ∧ Only B w w' := by
  have hB := h.lt
  have T := Lib.hid (Two.start h r f b a)
  have HB := Lib.hid hB; clear h hB
  have e0 : (n == 0) = false := by simp; omega
  have e38 : (n == 38) = false := by simp; omega
  have e39 : (n == 39) = false := by simp; omega
  have e48 : (n == 48) = false := by simp; omega
  have e49 : (n == 49) = false := by simp; omega
  have d30 : decide (30 ≤ n) = false := decide_eq_false (by omega)
  have d40 : decide (40 ≤ n) = false := decide_eq_false (by omega)
  have d90 : decide (90 ≤ n) = false := decide_eq_false (by omega)
  have d100 : decide (100 ≤ n) = false := decide_eq_false (by omega)
  have HC := Lib.hid (drawn_of a n _ (hW.ext (((Ext.refl w).alloc (.cells #[.int .i32 r, .int .u8 f, .int .u8 b, .int .u8 a] 23)).alloc (.cells #[.int .i32 0, .int .u8 0, .int .u8 0, .int .u8 0] 23))))
  generalize drawnP a n = q at HC ⊢
  clear hn hW
  go_enter Tryd.func18, Tryd.ntmps18
  go_wp2_with fail
  refine HC.out.mono ?_
  rintro e w1 ⟨rfl, hx⟩
  have T2 := Lib.hid (T.out.ext hx); clear hx
  have k0 : _ = some (Value.int .i32 r) := T2.out.pen.cell 0
  have f0 := T2.out.pen.frozen 0
  have k1 : _ = some (Value.int .u8 f) := T2.out.pen.cell 1
  have f1 := T2.out.pen.frozen 1
  have k2 : _ = some (Value.int .u8 b) := T2.out.pen.cell 2
  have f2 := T2.out.pen.frozen 2
  have k3 : _ = some (Value.int .u8 a) := T2.out.pen.cell 3
  have f3 := T2.out.pen.frozen 3
  have o0 : _ = some (Value.int .i32 0) := T2.out.out.cell 0
  have p0 := T2.out.out.frozen 0
  have o1 : _ = some (Value.int .u8 0) := T2.out.out.cell 1
  have p1 := T2.out.out.frozen 1
  have o2 : _ = some (Value.int .u8 0) := T2.out.out.cell 2
  have p2 := T2.out.out.frozen 2
  have o3 : _ = some (Value.int .u8 0) := T2.out.out.cell 3
  have p3 := T2.out.out.frozen 3
  go_wp2
  exact ret_cell1 rfl rfl rfl (T2.out.fin HB.out 3 (.int .u8 q) ⟨r, f, b, q⟩ rfl).1 ⟨rfl, (T2.out.fin HB.out 3 (.int .u8 q) ⟨r, f, b, q⟩ rfl).2⟩
set_option maxHeartbeats 4000000 in
set_option maxRecDepth 100000 in
theorem obeyed_n50 (r f b a : Int) (n : Int) (B : Nat) (l : List Int) (w : World) (h : TakeAt w B l) (hW : Ways w) (hn : 50 ≤ n ∧ n ≤ 89) : Calls Tryd.prog 18 #[.agg #[.int .i32 r, .int .u8 f, .int .u8 b, .int .u8 a], .int .i64 n, takeV B] w fun e w' => e = .returned (Cel.val ⟨r, f, b, drawnP a n⟩) ∧ TakeAt w' B l ∧ Only B w w' := by
  have hB := h.lt
  have T := Lib.hid (Two.start h r f b a)
  have HB := Lib.hid hB; clear h hB
  have e0 : (n == 0) = false := by simp; omega
  have e38 : (n == 38) = false := by simp; omega
  have e39 : (n == 39) = false := by simp; omega
  have e48 : (n == 48) = false := by simp; omega
  have e49 : (n == 49) = false := by simp; omega
  have d30 : decide (30 ≤ n) = true := decide_eq_true (by omega)
  have d37 : decide (n ≤ 37) = false := decide_eq_false (by omega)
  have d40 : decide (40 ≤ n) = true := decide_eq_true (by omega)
  have d47 : decide (n ≤ 47) = false := decide_eq_false (by omega)
  have d90 : decide (90 ≤ n) = false := decide_eq_false (by omega)
  have d100 : decide (100 ≤ n) = false := decide_eq_false (by omega)
  have HC := Lib.hid (drawn_of a n _ (hW.ext (((Ext.refl w).alloc (.cells #[.int .i32 r, .int .u8 f, .int .u8 b, .int .u8 a] 23)).alloc (.cells #[.int .i32 0, .int .u8 0, .int .u8 0, .int .u8 0] 23))))
  generalize drawnP a n = q at HC ⊢
  clear hn hW
  go_enter Tryd.func18, Tryd.ntmps18
  go_wp2_with fail
  refine HC.out.mono ?_
  rintro e w1 ⟨rfl, hx⟩
  have T2 := Lib.hid (T.out.ext hx); clear hx
  have k0 : _ = some (Value.int .i32 r) := T2.out.pen.cell 0
  have f0 := T2.out.pen.frozen 0
  have k1 : _ = some (Value.int .u8 f) := T2.out.pen.cell 1
  have f1 := T2.out.pen.frozen 1
  have k2 : _ = some (Value.int .u8 b) := T2.out.pen.cell 2
  have f2 := T2.out.pen.frozen 2
  have k3 : _ = some (Value.int .u8 a) := T2.out.pen.cell 3
  have f3 := T2.out.pen.frozen 3
  have o0 : _ = some (Value.int .i32 0) := T2.out.out.cell 0
  have p0 := T2.out.out.frozen 0
  have o1 : _ = some (Value.int .u8 0) := T2.out.out.cell 1
  have p1 := T2.out.out.frozen 1
  have o2 : _ = some (Value.int .u8 0) := T2.out.out.cell 2
  have p2 := T2.out.out.frozen 2
  have o3 : _ = some (Value.int .u8 0) := T2.out.out.cell 3
  have p3 := T2.out.out.frozen 3
  go_wp2
  exact ret_cell1 rfl rfl rfl (T2.out.fin HB.out 3 (.int .u8 q) ⟨r, f, b, q⟩ rfl).1 ⟨rfl, (T2.out.fin HB.out 3 (.int .u8 q) ⟨r, f, b, q⟩ rfl).2⟩
set_option maxHeartbeats 4000000 in
set_option maxRecDepth 100000 in
theorem obeyed_n98 (r f b a : Int) (n : Int) (B : Nat) (l : List Int) (w : World) (h : TakeAt w B l) (hW : Ways w) (hn : 98 ≤ n ∧ n ≤ 99) : Calls Tryd.prog 18 #[.agg #[.int .i32 r, .int .u8 f, .int .u8 b, .int .u8 a], .int .i64 n, takeV B] w fun e w' => e = .returned (Cel.val ⟨r, f, b, drawnP a n⟩) ∧ TakeAt w' B l ∧ Only B w w' := by
  have hB := h.lt
  have T := Lib.hid (Two.start h r f b a)
  have HB := Lib.hid hB; clear h hB
  have e0 : (n == 0) = false := by simp; omega
  have e38 : (n == 38) = false := by simp; omega
  have e39 : (n == 39) = false := by simp; omega
  have e48 : (n == 48) = false := by simp; omega
  have e49 : (n == 49) = false := by simp; omega
  have d30 : decide (30 ≤ n) = true := decide_eq_true (by omega)
  have d37 : decide (n ≤ 37) = false := decide_eq_false (by omega)
  have d40 : decide (40 ≤ n) = true := decide_eq_true (by omega)
  have d47 : decide (n ≤ 47) = false := decide_eq_false (by omega)
  have d90 : decide (90 ≤ n) = true := decide_eq_true (by omega)
  have d97 : decide (n ≤ 97) = false := decide_eq_false (by omega)
  have d100 : decide (100 ≤ n) = false := decide_eq_false (by omega)
  have HC := Lib.hid (drawn_of a n _ (hW.ext (((Ext.refl w).alloc (.cells #[.int .i32 r, .int .u8 f, .int .u8 b, .int .u8 a] 23)).alloc (.cells #[.int .i32 0, .int .u8 0, .int .u8 0, .int .u8 0] 23))))
  generalize drawnP a n = q at HC ⊢
  clear hn hW
  go_enter Tryd.func18, Tryd.ntmps18
  go_wp2_with fail
  refine HC.out.mono ?_
  rintro e w1 ⟨rfl, hx⟩
  have T2 := Lib.hid (T.out.ext hx); clear hx
  have k0 : _ = some (Value.int .i32 r) := T2.out.pen.cell 0
  have f0 := T2.out.pen.frozen 0
  have k1 : _ = some (Value.int .u8 f) := T2.out.pen.cell 1
  have f1 := T2.out.pen.frozen 1
  have k2 : _ = some (Value.int .u8 b) := T2.out.pen.cell 2
  have f2 := T2.out.pen.frozen 2
  have k3 : _ = some (Value.int .u8 a) := T2.out.pen.cell 3
  have f3 := T2.out.pen.frozen 3
  have o0 : _ = some (Value.int .i32 0) := T2.out.out.cell 0
  have p0 := T2.out.out.frozen 0
  have o1 : _ = some (Value.int .u8 0) := T2.out.out.cell 1
  have p1 := T2.out.out.frozen 1
  have o2 : _ = some (Value.int .u8 0) := T2.out.out.cell 2
  have p2 := T2.out.out.frozen 2
  have o3 : _ = some (Value.int .u8 0) := T2.out.out.cell 3
  have p3 := T2.out.out.frozen 3
  go_wp2
  exact ret_cell1 rfl rfl rfl (T2.out.fin HB.out 3 (.int .u8 q) ⟨r, f, b, q⟩ rfl).1 ⟨rfl, (T2.out.fin HB.out 3 (.int .u8 q) ⟨r, f, b, q⟩ rfl).2⟩
set_option maxHeartbeats 4000000 in
set_option maxRecDepth 100000 in
theorem obeyed_n108 (r f b a : Int) (n : Int) (B : Nat) (l : List Int) (w : World) (h : TakeAt w B l) (hW : Ways w) (hn : 108 ≤ n) : Calls Tryd.prog 18 #[.agg #[.int .i32 r, .int .u8 f, .int .u8 b, .int .u8 a], .int .i64 n, takeV B] w fun e w' => e = .returned (Cel.val ⟨r, f, b, drawnP a n⟩) ∧ TakeAt w' B l ∧ Only B w w' := by
  have hB := h.lt
  have T := Lib.hid (Two.start h r f b a)
  have HB := Lib.hid hB; clear h hB
  have e0 : (n == 0) = false := by simp; omega
  have e38 : (n == 38) = false := by simp; omega
  have e39 : (n == 39) = false := by simp; omega
  have e48 : (n == 48) = false := by simp; omega
  have e49 : (n == 49) = false := by simp; omega
  have d30 : decide (30 ≤ n) = true := decide_eq_true (by omega)
  have d37 : decide (n ≤ 37) = false := decide_eq_false (by omega)
  have d40 : decide (40 ≤ n) = true := decide_eq_true (by omega)
  have d47 : decide (n ≤ 47) = false := decide_eq_false (by omega)
  have d90 : decide (90 ≤ n) = true := decide_eq_true (by omega)
  have d97 : decide (n ≤ 97) = false := decide_eq_false (by omega)
  have d100 : decide (100 ≤ n) = true := decide_eq_true (by omega)
  have d107 : decide (n ≤ 107) = false := decide_eq_false (by omega)
  have HC := Lib.hid (drawn_of a n _ (hW.ext (((Ext.refl w).alloc (.cells #[.int .i32 r, .int .u8 f, .int .u8 b, .int .u8 a] 23)).alloc (.cells #[.int .i32 0, .int .u8 0, .int .u8 0, .int .u8 0] 23))))
  generalize drawnP a n = q at HC ⊢
  clear hn hW
  go_enter Tryd.func18, Tryd.ntmps18
  go_wp2_with fail
  refine HC.out.mono ?_
  rintro e w1 ⟨rfl, hx⟩
  have T2 := Lib.hid (T.out.ext hx); clear hx
  have k0 : _ = some (Value.int .i32 r) := T2.out.pen.cell 0
  have f0 := T2.out.pen.frozen 0
  have k1 : _ = some (Value.int .u8 f) := T2.out.pen.cell 1
  have f1 := T2.out.pen.frozen 1
  have k2 : _ = some (Value.int .u8 b) := T2.out.pen.cell 2
  have f2 := T2.out.pen.frozen 2
  have k3 : _ = some (Value.int .u8 a) := T2.out.pen.cell 3
  have f3 := T2.out.pen.frozen 3
  have o0 : _ = some (Value.int .i32 0) := T2.out.out.cell 0
  have p0 := T2.out.out.frozen 0
  have o1 : _ = some (Value.int .u8 0) := T2.out.out.cell 1
  have p1 := T2.out.out.frozen 1
  have o2 : _ = some (Value.int .u8 0) := T2.out.out.cell 2
  have p2 := T2.out.out.frozen 2
  have o3 : _ = some (Value.int .u8 0) := T2.out.out.cell 3
  have p3 := T2.out.out.frozen 3
  go_wp2
  exact ret_cell1 rfl rfl rfl (T2.out.fin HB.out 3 (.int .u8 q) ⟨r, f, b, q⟩ rfl).1 ⟨rfl, (T2.out.fin HB.out 3 (.int .u8 q) ⟨r, f, b, q⟩ rfl).2⟩
theorem penObeyed_of (c : Cel) (n : Int) (B : Nat) (l : List Int) (w : World) (h : TakeAt w B l) (hW : Ways w) : Calls Tryd.prog 18 #[c.val, .int .i64 n, takeV B] w fun e w' => e = .returned (obeyedP c n l).1.val ∧ TakeAt w' B (obeyedP c n l).2 ∧ Only B w w' := by
  obtain ⟨r, f, b, a⟩ := c
  unfold obeyedP
  simp only
  by_cases h0 : n = 0
  · rw [if_pos h0]; subst h0; exact obeyed_zero r f b a B l w h
  rw [if_neg h0]
  by_cases h1 : 30 ≤ n ∧ n ≤ 37
  · rw [if_pos h1]; exact obeyed_30 r f b a n B l w h h1
  rw [if_neg h1]
  by_cases h2 : n = 38
  · rw [if_pos h2]; subst h2; exact obeyed_38 r f b a B l w h
  rw [if_neg h2]
  by_cases h3 : n = 39
  · rw [if_pos h3]; subst h3; exact obeyed_39 r f b a B l w h
  rw [if_neg h3]
  by_cases h4 : 40 ≤ n ∧ n ≤ 47
  · rw [if_pos h4]; exact obeyed_40 r f b a n B l w h h4
  rw [if_neg h4]
  by_cases h5 : n = 48
  · rw [if_pos h5]; subst h5; exact obeyed_48 r f b a B l w h
  rw [if_neg h5]
  by_cases h6 : n = 49
  · rw [if_pos h6]; subst h6; exact obeyed_49 r f b a B l w h
  rw [if_neg h6]
  by_cases h7 : 90 ≤ n ∧ n ≤ 97
  · rw [if_pos h7]; exact obeyed_90 r f b a n B l w h h7
  rw [if_neg h7]
  by_cases h8 : 100 ≤ n ∧ n ≤ 107
  · rw [if_pos h8]; exact obeyed_100 r f b a n B l w h h8
  rw [if_neg h8]
  rcases (show n < 0 ∨ (1 ≤ n ∧ n ≤ 29) ∨ (50 ≤ n ∧ n ≤ 89) ∨ (98 ≤ n ∧ n ≤ 99) ∨ 108 ≤ n by omega) with h9 | h9 | h9 | h9 | h9
  · exact obeyed_n0 r f b a n B l w h hW h9
  · exact obeyed_n1 r f b a n B l w h hW h9
  · exact obeyed_n50 r f b a n B l w h hW h9
  · exact obeyed_n98 r f b a n B l w h hW h9
  · exact obeyed_n108 r f b a n B l w h hW h9
end Go.Proofs.YtgnknliaeoblhabDoor
