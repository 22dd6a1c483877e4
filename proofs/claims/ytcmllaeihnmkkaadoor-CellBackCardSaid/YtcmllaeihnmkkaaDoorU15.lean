/- strings.Builder at this dump: copyCheck and WriteString (whose texts here bear a refused statement on a road that is not gone). · Contracts of the library at this program. · A builder of bytes, by a name of its own (no numbers written into it). · A right row as bytes: cell.Bytes. -/
import Derived.Test.YtcmllaeihnmkkaaDoorU1
import Derived.Test.YtcmllaeihnmkkaaDoorU14
import Derived.Test.YtcmllaeihnmkkaaDoorProg
import Derived.KernelRfl
import Derived.Shelf.Strings.BuilderK
import Derived.Laws.Externs
import Derived.Test.YtcmllaeihnmkkaaDoorChecked
namespace Go.Proofs.YtcmllaeihnmkkaaDoor
open Go Go.RowKit

abbrev TB : TypeId := 105
theorem builderSize : (Tryd.prog.info? 105).map (·.size) = some 2 := by kernel_rfl
theorem builderLies : liesAt Tryd.prog Tryd.prog.depth 105 (2 / Tryd.prog.cellsOf 105) 0 105 1 = true := by kernel_rfl
theorem infoByte : (Tryd.prog.info? 5).map (fun i => (i.zero, i.size, i.bytes)) = some (some (.int .u8 0), 1, 1) := by kernel_rfl

set_option maxRecDepth 100000 in
theorem copyCheck_used (b : Nat) (w : World) (h0 : w.cell? ⟨b, 0, none⟩ = some (.pointer (some ⟨b, 0, none⟩))) :
    Calls Tryd.prog 119 #[.pointer (some ⟨b, 0, none⟩)] w fun e w' => e = .returned (.tuple #[]) ∧ w' = w := by
  obtain ⟨j, hj, _⟩ := Option.map_eq_some_iff.1 builderSize
  go_enter Tryd.func119, Tryd.ntmps119
  go_wp2
  rw [Lib.run_neq_ptr_same w _ Tryd.underlying103 hj]
  go_wp2
  go_end0
  exact ⟨rfl, rfl⟩
set_option maxRecDepth 100000 in
theorem copyCheck_fresh (b : Nat) (w : World) (h0 : w.cell? ⟨b, 0, none⟩ = some (.pointer none)) (hsh : w.shape? b = some (105, 2)) (hfz : w.frozen? ⟨b, 0, none⟩ = false) :
    Calls Tryd.prog 119 #[.pointer (some ⟨b, 0, none⟩)] w fun e w' => e = .returned (.tuple #[]) ∧ w' = w.setCell ⟨b, 0, none⟩ (.pointer (some ⟨b, 0, none⟩)) := by
  obtain ⟨j, hj, hjs⟩ := Option.map_eq_some_iff.1 builderSize
  go_enter Tryd.func119, Tryd.ntmps119
  go_wp2
  rw [Lib.run_to_unsafe w ⟨b, 0, none⟩ Tryd.underlying103 Tryd.underlying147 hj (by rw [hjs]; decide) hsh (Nat.zero_lt_succ 1)]
  simp only [Result.andThen]
  rw [Oper.upon_value]
  go_wp2
  rw [run_callFunc_extern Tryd.func136 (by kernel_rfl) (by kernel_rfl) (by kernel_rfl) (e := Extern.AbiNoEscape.same) (by kernel_rfl)]
  rw [Lib.run_noEscape]
  simp only [Result.andThen]
  rw [Oper.upon_value]
  go_wp2
  rw [Lib.run_from_unsafe w ⟨b, 0, none⟩ Tryd.underlying147 Tryd.underlying103 hj hsh builderLies]
  simp only [Result.andThen]
  rw [Oper.upon_value]
  go_wp2
  go_end0
  exact ⟨rfl, rfl⟩
theorem builder_copyCheck (B b : Nat) (bs : List Value) (w : World) (h : Lib.IsBuilderF 105 5 B b bs w) :
    Calls Tryd.prog 119 #[.pointer (some ⟨b, 0, none⟩)] w fun e w' => e = .returned (.tuple #[]) ∧ Lib.BuilderAtF 105 5 B b (.pointer (some ⟨b, 0, none⟩)) bs w' ∧ Below B w w' ∧ Lib.OthersKept 5 (some b) w w' := by
  rcases h with h | h
  · refine (copyCheck_fresh b w h.cell0 h.shape h.frozen0).mono ?_
    rintro e w' ⟨rfl, rfl⟩
    exact ⟨rfl, h.used _, (Below.refl B w).setCell (p := ⟨b, 0, none⟩) h.1 _, (Lib.OthersKept.refl _ _ w).setCell ⟨b, 0, none⟩ rfl _⟩
  · refine (copyCheck_used b w h.cell0).mono ?_
    rintro e w' ⟨rfl, rfl⟩
    exact ⟨rfl, h, Below.refl B _, Lib.OthersKept.refl _ _ _⟩

set_option maxHeartbeats 2000000 in
set_option maxRecDepth 100000 in
/-- WriteString onto a builder of the call's own. -/
theorem builder_WriteString (B b : Nat) (bs : List Value) (s : ByteArray) (w : World) (h : Lib.IsBuilderF 105 5 B b bs w) (hlen : bs.length + s.size ≤ 140737488355328) (hBw : B ≤ w.heap.size) :
    Calls Tryd.prog 69 #[.pointer (some ⟨b, 0, none⟩), .string s] w fun e w' => e = .returned (.tuple #[.int .i64 s.size, .nilIface]) ∧ Lib.IsBuilderF 105 5 B b (bs ++ Lib.strCells s) w' ∧ Below B w w' ∧ Lib.OthersKept 5 (some b) w w' := by
  obtain ⟨i0, hi, hz0, hz1, hz2⟩ := info_parts infoByte
  go_enter Tryd.func69, Tryd.ntmps69
  go_wp2_with (go_at_call 119; refine (builder_copyCheck B b bs _ h).mono ?_)
  rintro e w1 ⟨rfl, h1, hb1, hk1⟩
  obtain ⟨hB, v, hbk, hown, hne⟩ := h1
  have c0 : w1.cell? ⟨b, 0, none⟩ = some (.pointer (some ⟨b, 0, none⟩)) := by rw [Lib.cell_of_heap hbk]; rfl
  have c1 : w1.cell? ⟨b, 1, none⟩ = some v := by rw [Lib.cell_of_heap hbk]; rfl
  go_wp2_with (at_builtin; refine Lib.wpList_append_own_stringF _ rfl _ _ 29 9 rfl B 5 i0 Tryd.underlying29 Tryd.underlying9 hi hz0 hz1 hz2 _ _ _ rfl hown s rfl ?c3 ?c4 ?c5 ?_)
  case c3 => unfold maxLen; omega
  case c4 => omega
  case c5 => have := hb1.size; omega
  intro v' w2 hown' hgrow _
  have hlt : b < w1.heap.size := by
    rcases Nat.lt_or_ge b w1.heap.size with h' | h'
    · exact h'
    · simp [Array.getElem?_eq_none h'] at hbk
  have hb2 : w2.heap[b]? = some (.cells #[.pointer (some ⟨b, 0, none⟩), v] 105 (0, 0)) := by
    rw [hgrow.block b hlt (fun e => hne e.symm)]
    exact hbk
  have d0 : w2.cell? ⟨b, 0, none⟩ = some (.pointer (some ⟨b, 0, none⟩)) := by rw [Lib.cell_of_heap hb2]; rfl
  have d1 : w2.cell? ⟨b, 1, none⟩ = some v := by rw [Lib.cell_of_heap hb2]; rfl
  have f1 : w2.frozen? ⟨b, 1, none⟩ = false := Lib.frozen_of_heap hb2 1
  obtain ⟨ao, n', cap, rfl⟩ : ∃ ao n' cap, v' = .slice ao n' cap := by
    rcases hown'.2 with ⟨hv, _⟩ | ⟨g, cap, cur, fz, hv, _⟩
    · exact ⟨_, _, _, hv⟩
    · exact ⟨_, _, _, hv⟩
  go_wp2
  go_ret2
  refine ⟨rfl, .inr ?_, ?_, (hk1.grown hgrow (Lib.ownsRowF_kind hown)).setCell ⟨b, 1, none⟩ rfl _⟩
  · exact Lib.BuilderAtF.put (T := 105) (e := 5) hB hb2 (bs' := bs ++ Lib.strCells s) (by simpa [Lib.strCells_length] using hown') (by decide)
  · exact (hb1.grown hgrow (by have := hb1.size; omega) (fun k hk => (hown.lt k hk).1)).setCell (p := ⟨b, 1, none⟩) hB _
end Go.Proofs.YtcmllaeihnmkkaaDoor
namespace Go.Proofs
open Go Go.Shelf Go.RowKit
def Tryd.lays169_ren : Go.Shelf.Ren := ⟨fun | 169 => 71 | n => n, fun | 70 => 103 | 9 => 9 | 0 => 0 | 72 => 105 | 37 => 29 | 127 => 162 | 3 => 3 | 5 => 5 | n => n, fun | n => n⟩
theorem Tryd.lays169 : Go.Proofs.Lays.n169 Tryd.prog Tryd.lays169_ren := {
  mixed := by kernel_rfl
  f169 := Tryd.func71.trans (congrArg some (by kernel_rfl))
  t0 := Tryd.underlying0
  a0 := Tryd.isAgg0
  z0 := Tryd.sizeOf0
  v0 := Tryd.zeroValue0
  t3 := Tryd.underlying3
  a3 := Tryd.isAgg3
  z3 := Tryd.sizeOf3
  v3 := Tryd.zeroValue3
  t9 := Tryd.underlying9
  a9 := Tryd.isAgg9
  z9 := Tryd.sizeOf9
  v9 := Tryd.zeroValue9
  t37 := Tryd.underlying29
  a37 := Tryd.isAgg29
  z37 := Tryd.sizeOf29
  v37 := Tryd.zeroValue29
  t70 := Tryd.underlying103
  a70 := Tryd.isAgg103
  z70 := Tryd.sizeOf103
  v70 := Tryd.zeroValue103
  t72 := Tryd.underlying105
  a72 := Tryd.isAgg105
  z72 := Tryd.sizeOf105
  v72 := Tryd.zeroValue105
  t127 := Tryd.underlying162
  a127 := Tryd.isAgg162
  z127 := Tryd.sizeOf162
  v127 := Tryd.zeroValue162 }
theorem Tryd.Builder_Extra_169 : Builder.Extra Tryd.prog Tryd.lays169_ren := {
  sizeBuilder := by kernel_rfl
  liesBuilder := by kernel_rfl
  t5 := Tryd.underlying5
  a5 := Tryd.isAgg5
  z5 := Tryd.sizeOf5
  v5 := Tryd.zeroValue5
  infoByte := by kernel_rfl
  cellsByte := by kernel_rfl
  sizeByte := by kernel_rfl
  neB5 := by decide }
theorem Tryd.Builder_String_any_k (B b : Nat) (l : List UInt8) (w : World) (h : Lib.IsBuilderF 105 5 B b (Lib.byteCells l) w) (hBw : B ≤ w.heap.size) :
    Calls Tryd.prog 71 #[.pointer (some ⟨b, 0, none⟩)] w fun e w' => e = .returned (.string ⟨l.toArray⟩) ∧ (Lib.IsBuilderF 105 5 B b (Lib.byteCells l) w' ∧ Below B w w' ∧ Lib.OthersKept 5 (some b) w w') := Any.Builder_String_any_k Tryd.lays169 Tryd.Builder_Extra_169 B b l w h hBw
end Go.Proofs
namespace Go.Proofs.YtcmllaeihnmkkaaDoor
open Go Go.RowKit

/-- The block b is a strings.Builder of the call's own, that holds these bytes; all that is its own lies from block B on. -/
def IsB (B b : Nat) (l : List UInt8) (w : World) : Prop := Lib.IsBuilderF 105 5 B b (Lib.byteCells l) w
theorem ownsRowF_same {w w' : World} {B : Nat} {e : TypeId} {size : Nat} {v : Value} {n : Nat} {xs : List Value} (h : w.ownsRowF B e size v n xs) (hk : ∀ (k : Nat) (c : Array Value) (f : Nat × Nat), w.heap[k]? = some (.cells c e f) → w'.heap[k]? = w.heap[k]?) : w'.ownsRowF B e size v n xs := by
  obtain ⟨h1, h2⟩ := h
  refine ⟨h1, ?_⟩
  rcases h2 with h2 | ⟨g, cap, cur, fz, e1, e2, e3, e4⟩
  · exact .inl h2
  · exact .inr ⟨g, cap, cur, fz, e1, e2, by rw [hk g _ _ e3]; exact e3, e4⟩
theorem IsB.same {w w' : World} {B b : Nat} {l : List UInt8} (h : IsB B b l w) (hk : ∀ (k : Nat) (c : Array Value) (t : TypeId) (f : Nat × Nat), w.heap[k]? = some (.cells c t f) → t = 105 ∨ t = 5 → w'.heap[k]? = w.heap[k]?) : IsB B b l w' := by
  rcases h with ⟨hB, v, hb, ho, hne⟩ | ⟨hB, v, hb, ho, hne⟩
  · exact .inl ⟨hB, v, by rw [hk b _ _ _ hb (.inl rfl)]; exact hb, ownsRowF_same ho (fun k c f h => hk k c _ f h (.inr rfl)), hne⟩
  · exact .inr ⟨hB, v, by rw [hk b _ _ _ hb (.inl rfl)]; exact hb, ownsRowF_same ho (fun k c f h => hk k c _ f h (.inr rfl)), hne⟩
theorem IsB.set {w : World} {B b k : Nat} {l : List UInt8} {cs : Array Value} {t : TypeId} {f : Nat × Nat} (h : IsB B b l w) (hk : w.heap[k]? = some (.cells cs t f)) (h1 : t ≠ 105) (h2 : t ≠ 5) (i : Nat) (u : Value) : IsB B b l (w.setCell ⟨k, i, none⟩ u) :=
  h.same fun j c t' f' hj ht => Below.heap_setCell _ _ _ _ (fun e => by
    have e' : j = k := e
    rw [e', hk] at hj
    injection hj with hj
    injection hj with _ e2 _
    subst e2
    rcases ht with ht | ht
    · exact h1 ht
    · exact h2 ht)
theorem IsB.ext {w w' : World} (hx : Ext w w') {B b : Nat} {l : List UInt8} (h : IsB B b l w) : IsB B b l w' := h.same fun k _ _ _ hk _ => hx.block k (Array.getElem?_eq_some_iff.1 hk).1
theorem IsB.put {w : World} {B b k : Nat} {l : List UInt8} {o : Obj} (h : IsB B b l w) (hk : w.heap[k]? = some o) (ho : o.isCells = false) (o' : Obj) : IsB B b l (w.putObj k o') := h.same fun j c t f hj _ => World.putObj_heap_other (fun e => by
  subst e
  rw [hk] at hj
  injection hj with hj
  subst hj
  cases ho)
theorem IsB.fresh (w : World) : IsB w.heap.size w.heap.size [] (w.alloc (.cells #[.pointer none, .slice none 0 0] 105)) :=
  Lib.IsBuilderF.of (Lib.fresh_isBuilder 105 5 w)
theorem IsB.lt {B b : Nat} {l : List UInt8} {w : World} (h : IsB B b l w) : b < w.heap.size := by
  rcases h with h | h <;> exact h.lt
/-- A cell of a block that is not the builder's, and no row of bytes, stands. -/
theorem kept_cell {w w' : World} {b k : Nat} {cs : Array Value} {T : TypeId} {fz : Nat × Nat} (hk : Lib.OthersKept 5 (some b) w w') (h : w.heap[k]? = some (.cells cs T fz)) (hb : k ≠ b) (hT : T ≠ 5) : w'.heap[k]? = some (.cells cs T fz) :=
  hk k _ h (fun e => hb (Option.some.inj e)) (fun c f e => hT (by injection e))
/-- WriteString. -/
theorem B_write (B b : Nat) (l : List UInt8) (s : ByteArray) (w : World) (h : IsB B b l w) (hlen : l.length + s.data.toList.length ≤ 140737488355328) (hBw : B ≤ w.heap.size) :
    Calls Tryd.prog 69 #[.pointer (some ⟨b, 0, none⟩), .string s] w fun e w' => e = .returned (.tuple #[.int .i64 s.size, .nilIface]) ∧ IsB B b (l ++ s.data.toList) w' ∧ Below B w w' ∧ Lib.OthersKept 5 (some b) w w' := by
  refine (builder_WriteString B b (Lib.byteCells l) s w h ?_ hBw).mono ?_
  · rw [Lib.byteCells_length]
    have : s.data.toList.length = s.size := Array.length_toList
    omega
  · rintro e w' ⟨h1, h2, h3, h4⟩
    refine ⟨h1, ?_, h3, h4⟩
    unfold IsB
    rw [Lib.byteCells_append, ← Lib.strCells_eq]
    exact h2
/-- String. -/
theorem B_string (B b : Nat) (l : List UInt8) (w : World) (h : IsB B b l w) (hBw : B ≤ w.heap.size) :
    Calls Tryd.prog 71 #[.pointer (some ⟨b, 0, none⟩)] w fun e w' => e = .returned (.string ⟨l.toArray⟩) ∧ Below B w w' ∧ Lib.OthersKept 5 (some b) w w' :=
  (Tryd.Builder_String_any_k B b l w h hBw).mono fun _ _ ⟨h1, _, h3, h4⟩ => ⟨h1, h3, h4⟩
end Go.Proofs.YtcmllaeihnmkkaaDoor
namespace Go.Proofs.YtcmllaeihnmkkaaDoor
open Go Go.RowKit Go.Shelf
attribute [local go_sem] Oper.semAt_some

theorem byte_put (l : List (Nat × Cel)) (i : Nat) (c : Cel) : runsB (l ++ [(i, c)]) = runsB l ++ putN [(i : Int) - 1, c.r, c.f, c.b, c.a] := by rw [runsB_append, runsB_one]; rfl
theorem runsB_len : ∀ (l : List (Nat × Cel)), (∀ x, x ∈ l → x.2.ok ∧ 1 ≤ x.1 ∧ x.1 ≤ 1000000) → (runsB l).length ≤ 50 * l.length
  | [], _ => by simp [runsB]
  | p :: l, h => by
    rw [runsB_cons, List.length_append, List.length_cons]
    have h1 := runsB_len l (fun x hx => h x (List.mem_cons_of_mem _ hx))
    obtain ⟨⟨h2, h3, h4, h5⟩, h6, h7⟩ := h p (List.mem_cons_self ..)
    have h8 : (runB p).length ≤ 50 := putN_len [(p.1 : Int) - 1, p.2.r, p.2.f, p.2.b, p.2.a] (fun z hz => by
      have h9 : z = (p.1 : Int) - 1 ∨ z = p.2.r ∨ z = p.2.f ∨ z = p.2.b ∨ z = p.2.a := by simpa using hz
      unfold isI32 at h2
      unfold isU8 at h3 h4 h5
      unfold isI64; omega)
    omega
set_option maxHeartbeats 4000000 in
set_option maxRecDepth 100000 in
theorem BytesC_in (n : Nat) (hn : 8 ≤ n) (l : List Cel) (v : Value) (w : World) (hv : IsCells w v l) (hS : Spans w) (hm : l.length ≤ 1000) :
    CallsIn Fence.wide n Tryd.prog 22 #[v] w fun e w' => e = .returned (.string ⟨(bytesL l).toArray⟩) ∧ Ext w w' := by
  obtain ⟨A, c, rfl, hlc, hA⟩ := hv.form
  have H := Lib.hid (And.intro hv (And.intro hS hm)); clear hv hS hA
  refine callsIn_of_wp_marks Tryd.func22 rfl trivial ?_ rfl
  simp only [Tryd.ntmps22, List.size_toArray, List.length_cons, List.length_nil, Nat.reduceAdd, Nat.reduceSub, Array.replicate_succ, Array.replicate_zero, List.push_toArray, List.append_toArray, List.nil_append, List.cons_append]
  gi_wp2_with fail
  refine ⟨trivial, fun _ => by omega, (callsIn_wide.2 (Right_of l _ w H.out.1 H.out.2.1 (Nat.le_trans H.out.2.2 (by decide)))).mono ?_⟩
  rintro e w2 ⟨rfl, hx⟩
  have HX := Lib.hid hx; clear hx
  generalize hR : rightL l = R
  have HR := Lib.hid hR; clear hR
  cases R with
  | false =>
    have hb : bytesL l = [] := by unfold bytesL; rw [HR.out]; rfl
    have HB := Lib.hid hb; clear hb
    gi_wp2
    refine ⟨_, results_tmp rfl _ _ _, ?_⟩
    exact ⟨by rw [HB.out]; rfl, HX.out⟩
  | true =>
    have hb : bytesL l = runsB (runsL l) := by unfold bytesL; rw [HR.out]; rfl
    have HB := Lib.hid hb; clear hb
    gi_wp2_with fail
    refine ⟨trivial, fun _ => by omega, (callsIn_wide.2 (runs_of _ _ _ _)).mono ?_⟩
    rintro e w' ⟨rfl, rfl⟩
    gi_wp2
    have HZ := Lib.hid (Ext.trans HX.out (((Ext.refl w2).alloc (.cells #[.pointer none, .slice none 0 0] 105)).alloc (.cells #[.slice A l.length c] 27)))
    have hB0 := IsB.ext ((Ext.refl _).alloc (.cells #[.slice A l.length c] 27)) (IsB.fresh w2)
    have hx0 : Ext w2 ((w2.alloc (.cells #[.pointer none, .slice none 0 0] 105)).alloc (.cells #[.slice A l.length c] 27)) := ((Ext.refl w2).alloc _).alloc _
    have hbox : ((w2.alloc (.cells #[.pointer none, .slice none 0 0] 105)).alloc (.cells #[.slice A l.length c] 27)).heap[w2.heap.size + 1]? = some (.cells #[.slice A l.length c] 27 (0, 0)) := heap_two _ _ _
    have hsz : ((w2.alloc (.cells #[.pointer none, .slice none 0 0] 105)).alloc (.cells #[.slice A l.length c] 27)).heap.size = w2.heap.size + 2 := by simp
    generalize ((w2.alloc (.cells #[.pointer none, .slice none 0 0] 105)).alloc (.cells #[.slice A l.length c] 27)) = w3 at hB0 hx0 hbox hsz ⊢
    generalize hbb : w2.heap.size = bb at hB0 hbox hsz ⊢
    have HBB := Lib.hid hbb; clear hbb
    have hput : ∀ (W : World) (k : Nat) (o o' : Obj), Ext w2 W → w3.heap.size ≤ k → W.heap[k]? = some o → o.isCells = false → Ext w2 (W.putObj k o') := fun W k o o' h hk ho hc =>
      Below.grown h (grownBy_putObj' W k o') h.size (fun j e => by cases e; rw [HBB.out]; omega)
    refine wpIn_range_on rfl (by omega) (gf := 118) (lb := #[.pointer (some ⟨bb + 1, 0, none⟩)]) rfl trivial (enters_of Tryd.func118 (by kernel_rfl) rfl)
      runV (fun _ => rfl) (runsL l) (fun U V => V.heap[bb + 1]? = U.heap[bb + 1]?) (fun _ _ _ h k => k.trans h) (fun W k o' hk => World.putObj_heap_other (by omega))
      (fun pre W => IsB bb bb (runsB pre) W ∧ Ext w2 W ∧ ∃ u, W.heap[bb + 1]? = some (.cells #[u] 27 (0, 0)))
      (fun pre x a' W => ∃ Bx, bb + 2 ≤ Bx ∧ a' = { tmps := #[.slice A l.length c, undef, .string ⟨#[]⟩, .pointer (some ⟨bb, 0, none⟩), .int .i64 x.1, .pointer (some ⟨Bx, 0, none⟩), .slice A l.length c, .bool true, .bool false, .slice A l.length c, .func (.func 118) #[] #[.pointer (some ⟨bb + 1, 0, none⟩)], .int .i64 x.1, x.2.val, undef, undef, undef, undef, undef, undef, undef, undef, undef, undef, undef, undef, undef, undef, undef, undef, undef, undef], defers := [] } ∧
        Blk W Bx 57 x.2.cells.toArray ∧ (IsB bb bb (runsB pre) W ∧ Ext w2 W ∧ ∃ u, W.heap[bb + 1]? = some (.cells #[u] 27 (0, 0))))
      ?hI ?hM ?h0 ?hseq ?hassign ?hbody ?hdone
    case hI => exact fun pre W k o o' h hk ho hc => ⟨h.1.put ho hc o', hput W k o o' h.2.1 hk ho hc, by obtain ⟨u, hu⟩ := h.2.2; exact ⟨u, (World.putObj_heap_other (by omega)).trans hu⟩⟩
    case hM =>
      rintro pre x a' W k o o' ⟨Bx, h1, h2, h3, h4, h5, h6⟩ hk ho hc
      refine ⟨Bx, h1, h2, ?_, h4.put ho hc o', hput W k o o' h5 hk ho hc, by obtain ⟨u, hu⟩ := h6; exact ⟨u, (World.putObj_heap_other (by omega)).trans hu⟩⟩
      refine (World.putObj_heap_other (fun e => ?_)).trans h3
      subst e
      have h3' : W.heap[Bx]? = _ := h3
      rw [ho] at h3'
      injection h3' with h3'
      subst h3'
      cases hc
    case h0 => exact fun o1 o2 => ⟨hB0.ext (((Ext.refl _).alloc _).alloc _), hx0.trans (((Ext.refl _).alloc _).alloc _), _, ((((Ext.refl w3).alloc o1).alloc o2).block _ (by omega)).trans hbox⟩
    case hseq =>
      intro ll R W hxW hR hY hI0 hR0
      refine (runs1_in (n - 1) (by omega) ll (bb + 1) w2 _ l (fun pre W => (IsB bb bb (runsB pre) W ∧ Ext w2 W ∧ ∃ u, W.heap[bb + 1]? = some (.cells #[u] 27 (0, 0))) ∧ R W) (H.out.1.ext HX.out) HR.out (by have := H.out.2.2; omega) (H.out.2.1.ext HX.out) ?_ ?_ (fun pre A h => h.1.2.1) (by rw [HBB.out]; omega) (fun pre x W1 h hr => (hY pre x W1 h.1 h.2 hr).mono fun e W' ⟨h1, h2, h3, h4⟩ => ⟨h1, ⟨h2, h3⟩, h4⟩) W ((hxW.block _ (Array.getElem?_eq_some_iff.1 hbox).1).trans hbox) ⟨hI0, hR0⟩).mono fun e W' ⟨h1, h2⟩ => ⟨h1, h2.1, h2.2⟩
      · exact fun pre U V h hx => ⟨⟨h.1.1.ext hx, h.1.2.1.trans hx, by obtain ⟨u, hu⟩ := h.1.2.2; exact ⟨u, (hx.block _ (Array.getElem?_eq_some_iff.1 hu).1).trans hu⟩⟩, hR _ _ h.2 (Held.ext hx)⟩
      · exact fun pre U u u' h hu => ⟨⟨h.1.1.set hu (by decide) (by decide) 0 u', h.1.2.1.setCell (p := ⟨bb + 1, 0, none⟩) (by show w2.heap.size ≤ bb + 1; rw [HBB.out]; omega) u', u', set_box hu u'⟩, hR _ _ h.2 (Held.only (Only.setCell (Only.refl (bb + 1) U) u') (by omega))⟩
    case hassign =>
      rintro ll pre x W ⟨h1, h2, u, hu⟩ hr
      obtain ⟨i, c'⟩ := x
      have h3 : bb + 2 ≤ W.heap.size := (Array.getElem?_eq_some_iff.1 hu).1
      dsimp only [runV, Cel.val]
      gi_wp2
      have hx4 := (Ext.refl W).alloc (.cells #[.int .i32 c'.r, .int .u8 c'.f, .int .u8 c'.b, .int .u8 c'.a] 57)
      exact ⟨Held.ext hx4, hx4.block _ (by omega), W.heap.size, h3, rfl, Go.heap_alloc_new _ _, h1.ext hx4, h2.trans hx4, u, (hx4.block _ (by omega)).trans hu⟩
    case hbody =>
      rintro ll pre x a' W ⟨Bx, hBx, rfl, hblk, h1, h2, h3⟩ ⟨rest, hr⟩
      obtain ⟨i, c'⟩ := x
      have hmem := runs_mem l.length l (Nat.le_refl _) (i, c') (by rw [hr]; simp)
      have hok := H.out.1.all _ hmem.1
      obtain ⟨r, f, b, a⟩ := c'
      have hl1 := H.out.2.2
      have hi1 := hmem.2.1
      have hi2 := hmem.2.2
      simp only at hi1 hi2
      have o1 := hok.1
      have o2 := hok.2.1
      have o3 := hok.2.2.1
      have o4 := hok.2.2.2
      unfold isI32 at o1
      unfold isU8 at o2 o3 o4
      simp only at o1 o2 o3 o4
      have k0 : W.cell? ⟨Bx, 0, none⟩ = some (.int .i32 r) := hblk.cell 0
      have k1 : W.cell? ⟨Bx, 1, none⟩ = some (.int .u8 f) := hblk.cell 1
      have k2 : W.cell? ⟨Bx, 2, none⟩ = some (.int .u8 b) := hblk.cell 2
      have k3 : W.cell? ⟨Bx, 3, none⟩ = some (.int .u8 a) := hblk.cell 3
      have HW := Lib.hid (And.intro h1 (And.intro h2 (And.intro h3 (And.intro hblk hmem)))); clear h1 h2 h3 hblk hmem hok
      dsimp only [Cel.val]
      gi_wp2_with fail
      refine ⟨trivial, fun _ => by omega, (CallsIn.inRound ll (callsIn_wide.2 (Put_ints [(i : Int) - 1, r, f, b, a] _ _ (ints_new W [(i : Int) - 1, r, f, b, a] 3 (fun z hz => by
        have h5 : z = (i : Int) - 1 ∨ z = r ∨ z = f ∨ z = b ∨ z = a := by simpa using hz
        unfold isI64; omega)) (by decide : [(1 : Int), 1, 1, 1, 1].length ≤ 1000)))).mono ?_⟩
      rintro e w5 ⟨rfl, hx5⟩
      have hx5' := ((Ext.refl W).alloc _).trans hx5
      have hpl : (putN [(i : Int) - 1, r, f, b, a]).length ≤ 50 := putN_len [(i : Int) - 1, r, f, b, a] (fun z hz => by
        have h5 : z = (i : Int) - 1 ∨ z = r ∨ z = f ∨ z = b ∨ z = a := by simpa using hz
        unfold isI64; omega)
      have hbp := byte_put pre i ⟨r, f, b, a⟩
      simp only at hbp
      have hrl := runsB_len (runsL l) (fun x hx => ⟨H.out.1.all _ (runs_mem l.length l (Nat.le_refl _) x hx).1, (runs_mem l.length l (Nat.le_refl _) x hx).2.1, by have := (runs_mem l.length l (Nat.le_refl _) x hx).2.2; omega⟩)
      have hrl2 := runs_len l.length l (Nat.le_refl _)
      rw [hr, runsB_append] at hrl
      rw [List.length_append] at hrl
      rw [hr] at hrl2
      generalize putN [(i : Int) - 1, r, f, b, a] = P at hpl hbp ⊢
      have HP := Lib.hid (And.intro hpl (And.intro hbp (And.intro hx5' (And.intro hrl hrl2)))); clear hpl hbp hx5' hrl hrl2 hx5 k0 k1 k2 k3
      gi_wp2_with fail
      refine ⟨trivial, fun _ => by omega, (CallsIn.inRound ll (callsIn_wide.2 (B_write bb bb (runsB pre) ⟨P.toArray⟩ w5 (HW.out.1.ext HP.out.2.2.1) ?hlen (Nat.le_of_lt (HW.out.1.ext HP.out.2.2.1).lt)))).mono ?_⟩
      case hlen =>
        have h6 := HP.out.1
        have h7 := HP.out.2.2.2.1
        have h8 := HP.out.2.2.2.2
        show (runsB pre).length + P.length ≤ _
        omega
      rintro e w6 ⟨rfl, h7, h8, h9⟩
      gi_wp2
      refine ⟨?_, ?_, ?_, ?_, ?_⟩
      · exact fun k o hk ho hc => h9 k o ((HP.out.2.2.1.block k (Array.getElem?_eq_some_iff.1 ho).1).trans ho) (fun e => by injection e; omega) (fun cs fz e => by subst e; cases hc)
      · obtain ⟨u, hu⟩ := HW.out.2.2.1
        rw [hu]
        exact h9 _ _ ((HP.out.2.2.1.block _ (Array.getElem?_eq_some_iff.1 hu).1).trans hu) (fun e => by injection e; omega) (fun cs fz e => by injection e with _ e2 _; revert e2; decide)
      · rw [HP.out.2.1]; exact h7
      · exact Below.trans (HW.out.2.1.trans HP.out.2.2.1) (by rw [HBB.out]; exact h8)
      · obtain ⟨u, hu⟩ := HW.out.2.2.1
        exact ⟨u, h9 _ _ ((HP.out.2.2.1.block _ (Array.getElem?_eq_some_iff.1 hu).1).trans hu) (fun e => by injection e; omega) (fun cs fz e => by injection e with _ e2 _; revert e2; decide)⟩
    case hdone =>
      rintro D W hD ⟨h1, h2, h3⟩ hK
      gi_wp2_with fail
      refine ⟨trivial, fun _ => by omega, (callsIn_wide.2 (B_string bb bb (runsB (runsL l)) W h1 (Nat.le_of_lt h1.lt))).mono ?_⟩
      rintro e w6 ⟨rfl, h7, h8⟩
      have hK6 := h8 D _ hK (fun e => by injection e; omega) (fun cs fz e => by cases e)
      have hx6 : Ext w2 w6 := Below.trans h2 (by rw [HBB.out]; exact h7)
      gi_wp2
      refine ⟨by simp, .inl ⟨_, _, rfl, run_takeDeferred hK6, ?_⟩⟩
      refine ⟨_, results_tmp rfl _ _ _, ?_⟩
      exact ⟨by rw [HB.out]; rfl, HX.out.trans (hput _ _ _ _ hx6 hD hK6 rfl)⟩
theorem BytesC_of (l : List Cel) (v : Value) (w : World) (hv : IsCells w v l) (hS : Spans w) (hm : l.length ≤ 1000) :
    Calls Tryd.prog 22 #[v] w fun e w' => e = .returned (.string ⟨(bytesL l).toArray⟩) ∧ Ext w w' := callsIn_wide.1 (BytesC_in 8 (Nat.le_refl _) l v w hv hS hm)
end Go.Proofs.YtcmllaeihnmkkaaDoor
