/- What a step hands back; control characters. -/
import Derived.Test.YtmppbmbhnoaggabEscB
import Derived.Laws.ResultCell
import Derived.Laws.Tables
namespace Go.Proofs.Ytmppbmbhnoaggab
open Go Go.RowKit

/-- What a step hands back. -/
def toldV (a : ActV) : Value := .tuple #[actV a, .bool (decide (a.kind ≠ 0))]
/-- An act that is handed back lies in a block of its own. -/
theorem ret_act {fn : Func} {p u : Tmp} (hr : fn.results = #[.cell p 31, .tmp u]) {Q : Ending → World → Prop} {a : Act} {w : World} {G : Nat} {cs : Array Value} (hd : a.defers = []) (hp : a.tmps.getD p undef = .pointer (some ⟨G, 0, none⟩))
    (hb : Blk w G 31 cs) (hz : cs.size = 13) (hq : Q (.returned (.tuple #[.agg cs, a.tmps.getD u undef])) w) : bodyPost Try.prog fn Q .ret a w := by
  obtain ⟨tm, df⟩ := a
  simp only at hd hp
  subst hd
  refine bodyPost_ret ?_ rfl hq
  rw [results_cell_tmp hr]
  simp only [hp, asAddr, Sem.run_pure, Result.andThen_ok]
  rw [run_loadVar_row w G 31 31 cs (0, 0) _ hb Try.underlying31 rfl (by rw [hz]; exact infoAct13)]
  rfl
theorem only_setRow (w : World) (g : Nat) (cs : Array Value) : Only g w (w.setRow g cs) :=
  ⟨rfl, rfl, rfl, by simp, fun k hk _ => setRow_other w g k cs hk⟩
/-- What is new may turn. -/
theorem only_fresh {g R : Nat} {w0 a b : World} (h : Only g w0 a) (k : Only R a b) (hR : w0.heap.size ≤ R) : Only g w0 b :=
  ⟨k.os.trans h.os, k.tape.trans h.tape, k.output.trans h.output, Nat.le_trans h.size k.size, fun i hi hl => (k.block i (by omega) (Nat.lt_of_lt_of_le hl h.size)).trans (h.block i hi hl)⟩
theorem ext_fresh {R : Nat} {w0 a b : World} (h : Ext w0 a) (k : Only R a b) (hR : w0.heap.size ≤ R) : Ext w0 b :=
  ⟨k.os.trans h.os, k.tape.trans h.tape, k.output.trans h.output, Nat.le_trans h.size k.size, fun i hl => (k.block i (by omega) (Nat.lt_of_lt_of_le hl h.size)).trans (h.block i hl)⟩
/-- A whole act is stored. -/
theorem wpList_store_act {ops : Array Oper} {rest : List Oper} {o : Oper} {a : Act} {w : World} {Q : Exit → Act → World → Prop} (hgd : o.guard = none) (x y : Operand) (ho : o.op = .store 31 x y)
    (R : Nat) (A : ActV) (hA : A.ns.length = 8) (hx : a.eval x = .pointer (some ⟨R, 0, none⟩)) (hy : a.eval y = .agg (actC A).toArray) (old : Array Value) (hb : Blk w R 31 old) (hz : old.size = 13)
    (h : ∀ w', Blk w' R 31 (actC A).toArray → Only R w w' → wpList Try.prog ops Q rest (a.put o.dst undef) w') : wpList Try.prog ops Q (o :: rest) a w :=
  wpList_store_row hgd 31 x y ho R (actC A).toArray hx hy 31 old hb (by rw [List.size_toArray, actC_len hA]; exact infoAct13) (by rw [hz, List.size_toArray, actC_len hA])
    (Array.all_eq_true_iff_forall_mem.2 fun u hu => actC_one A u (by simpa using hu)) (h _ (setRow_heap w R old (actC A).toArray 31 (0, 0) hb) (only_setRow w R (actC A).toArray))
/-- The walk stands still at the store of a whole act: 'go_wp2_with (with_reducible refine wpList_stop ?_); unfold StopAt'. -/
def StopAt (p : Prop) : Prop := p
theorem wpList_stop {ops : Array Oper} {rest : List Oper} {a : Act} {w : World} {Q : Exit → Act → World → Prop} {d : Option Tmp} {x y : Operand} {t : TypeId} {pos : String} {af : _}
    (h : StopAt (wpList Try.prog ops Q (⟨d, .store 31 x y, t, pos, af, none⟩ :: rest) a w)) : wpList Try.prog ops Q (⟨d, .store 31 x y, t, pos, af, none⟩ :: rest) a w := h
theorem parV_len {s : Par} (h : s.ns.length = 8) : (parV s).size = 12 := by unfold parV; simp [h]
theorem parV_one (s : Par) : ∀ u ∈ parV s, u.oneCell' = true := by
  intro u hu
  simp only [parV, List.mem_toArray, List.mem_cons, List.mem_map] at hu
  rcases hu with rfl | rfl | rfl | rfl | ⟨_, _, rfl⟩ <;> rfl
theorem wpList_stopP {ops : Array Oper} {rest : List Oper} {a : Act} {w : World} {Q : Exit → Act → World → Prop} {d : Option Tmp} {x y : Operand} {t : TypeId} {pos : String} {af : _}
    (h : StopAt (wpList Try.prog ops Q (⟨d, .store 28 x y, t, pos, af, none⟩ :: rest) a w)) : wpList Try.prog ops Q (⟨d, .store 28 x y, t, pos, af, none⟩ :: rest) a w := h
/-- A whole parser is stored. -/
theorem wpList_store_par {ops : Array Oper} {rest : List Oper} {o : Oper} {a : Act} {w : World} {Q : Exit → Act → World → Prop} (hgd : o.guard = none) (x y : Operand) (ho : o.op = .store 28 x y)
    (g : Nat) (s t : Par) (hs : s.ns.length = 8) (ht : t.ns.length = 8) (hx : a.eval x = .pointer (some ⟨g, 0, none⟩)) (hy : a.eval y = .agg (parV t)) (hb : ParAt w g s)
    (h : ∀ w', ParAt w' g t → Only g w w' → wpList Try.prog ops Q rest (a.put o.dst undef) w') : wpList Try.prog ops Q (o :: rest) a w :=
  wpList_store_row hgd 28 x y ho g (parV t) hx hy 28 (parV s) hb (by rw [parV_len ht]; exact infoPar) (by rw [parV_len hs, parV_len ht])
    (Array.all_eq_true_iff_forall_mem.2 fun u hu => parV_one t u hu) (h _ (setRow_heap w g (parV s) (parV t) 28 (0, 0) hb) (only_setRow w g (parV t)))
abbrev zero13 : Array Value := #[.int .i64 0, .int .i32 0, .int .u8 0, .int .u8 0, .int .i64 0, .int .i64 0, .int .i64 0, .int .i64 0, .int .i64 0, .int .i64 0, .int .i64 0, .int .i64 0, .int .i64 0]
/-- The world behind the making of an act's block. -/
structure Boxed (w W : World) : Prop where
  blk : Blk W w.heap.size 31 zero13
  ext : Ext w W
theorem boxed (w : World) : Boxed w (w.alloc (.cells zero13 31)) := ⟨Go.heap_alloc_new _ _, (Ext.refl w).alloc _⟩
theorem Boxed.only {w W : World} (h : Boxed w W) (g : Nat) : Only g w W := Only.of_ext h.ext
theorem Boxed.par {w W : World} {g : Nat} {s : Par} (h : Boxed w W) (k : ParAt w g s) : ParAt W g s := Blk.ext k h.ext
/-- The act's block behind a call that turned the parser alone. -/
theorem Boxed.after {w W W' : World} {g : Nat} (h : Boxed w W) (hg : g < w.heap.size) (k : Only g W W') : Blk W' w.heap.size 31 zero13 := h.blk.only k (by omega)
set_option maxHeartbeats 1000000 in
set_option maxRecDepth 100000 in
theorem obeyed_of (w : World) (g : Nat) (s : Par) (r : Int) (h : ParAt w g s) (hl : s.ns.length = 8) : Calls Try.prog 18 #[.pointer (some ⟨g, 0, none⟩), .int .i32 r] w fun e w' => e = .returned (toldV (obeyedE s r).2) ∧ ParAt w' g (obeyedE s r).1 ∧ Only g w w' := by
  obtain ⟨n0, n1, n2, n3, n4, n5, n6, n7, e⟩ := eight _ hl
  have c0 := (h.facts e).c0
  have hlt := h.lt
  have hR := fun W (k : ParAt W g s) => Reset_of W g s k hl
  have HB := Lib.hid (boxed w)
  have H := Lib.hid (And.intro h (And.intro hR hlt))
  clear h e hR hl
  unfold obeyedE
  by_cases h4 : s.st = 4
  · rw [h4] at c0
    rw [if_neg (by simpa using h4)]
    have H4 := Lib.hid h4; clear h4
    by_cases h7 : r = 7
    · subst h7
      rw [if_pos rfl]
      go_enter Try.func18, Try.ntmps18
      go_wp2_with fail
      refine (H.out.2.1 _ (HB.out.par H.out.1)).mono ?_
      rintro e w2 ⟨rfl, hp, ho⟩
      have H2 := Lib.hid (And.intro hp (And.intro (HB.out.after H.out.2.2 ho) ((HB.out.only g).trans ho))); clear hp ho c0
      go_wp2_with (with_reducible refine wpList_stop ?_)
      unfold StopAt
      refine wpList_store_act rfl _ _ rfl w.heap.size .none rfl rfl rfl _ H2.out.2.1 rfl ?_
      intro w3 hb3 ho3
      have H3 := Lib.hid (And.intro hb3 ho3); clear hb3 ho3
      go_wp2
      refine ret_act rfl rfl rfl H3.out.1 rfl ⟨rfl, H2.out.1.only H3.out.2 (by omega), only_fresh H2.out.2.2 H3.out.2 (Nat.le_refl _)⟩
    · rw [if_neg h7]
      go_enter Try.func18, Try.ntmps18
      go_wp2_with (with_reducible refine wpList_stop ?_)
      unfold StopAt
      refine wpList_store_act rfl _ _ rfl w.heap.size .none rfl rfl rfl _ HB.out.blk rfl ?_
      intro w3 hb3 ho3
      have H3 := Lib.hid (And.intro hb3 ho3); clear hb3 ho3
      go_wp2
      refine ret_act rfl rfl rfl H3.out.1 rfl ⟨rfl, (HB.out.par H.out.1).only H3.out.2 (by omega), only_fresh (HB.out.only g) H3.out.2 (Nat.le_refl _)⟩
  · have hb : (s.st == 4) = false := by simpa using h4
    rw [if_pos h4]
    have H4 := Lib.hid h4; clear h4
    obtain ⟨t, ht⟩ : ∃ t, s.st = t := ⟨_, rfl⟩
    rw [ht] at c0 hb
    go_enter Try.func18, Try.ntmps18
    go_wp2_with (with_reducible refine wpList_stop ?_)
    unfold StopAt
    refine wpList_store_act rfl _ _ rfl w.heap.size ⟨2, r, 0, 0, 0, z8⟩ rfl rfl rfl _ HB.out.blk rfl ?_
    intro w3 hb3 ho3
    have H3 := Lib.hid (And.intro hb3 ho3); clear hb3 ho3
    go_wp2
    refine ret_act rfl rfl rfl H3.out.1 rfl ⟨rfl, (HB.out.par H.out.1).only H3.out.2 (by omega), only_fresh (HB.out.only g) H3.out.2 (Nat.le_refl _)⟩
end Go.Proofs.Ytmppbmbhnoaggab
