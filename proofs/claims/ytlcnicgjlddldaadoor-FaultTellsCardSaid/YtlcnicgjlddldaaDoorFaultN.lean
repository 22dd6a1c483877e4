/- fault.Path. -/
import Derived.Test.YtlcnicgjlddldaaDoorFaultM
import Derived.Test.YtlcnicgjlddldaaDoorBuildB
import Derived.RangeFuncBox
import Derived.RangeFuncWrites
import Derived.Maps.AppendAt
namespace Go.Proofs.YtlcnicgjlddldaaDoor
open Go Go.RowKit Go.Shelf
attribute [local go_sem] Oper.semAt_some
attribute [local go_sem] ta_E_E ta_E_P ta_E_W ta_E_R ta_P_E ta_P_P ta_P_W ta_P_R ta_W_E ta_W_P ta_W_W ta_W_R ta_R_E ta_R_P ta_R_W ta_R_R

theorem infoString : (Tryd.prog.info? 9).map (fun i => (i.zero, i.size, i.bytes)) = some (some (.string ⟨#[]⟩), 1, 16) := by kernel_rfl
/-- The words of the parts, the outermost first. -/
def wordsOf : List Part → List ByteArray
  | [] => []
  | .word s _ _ :: l => s :: wordsOf l
  | _ :: l => wordsOf l
theorem wordsOf_append (l m : List Part) : wordsOf (l ++ m) = wordsOf l ++ wordsOf m := by
  induction l with
  | nil => rfl
  | cons x l ih => cases x <;> simp [wordsOf, ih]
theorem wordsOf_le (l : List Part) : (wordsOf l).length ≤ l.length := by
  induction l with
  | nil => simp [wordsOf]
  | cons x l ih => cases x <;> simp [wordsOf] <;> omega
def pathOf (l : List Part) : List UInt8 := Lib.join ((wordsOf l).map (·.data.toList)) [47]

theorem cell_one_at (w : World) (x : Value) (t : TypeId) (k : Nat) (hk : k = w.heap.size) : ∀ j u, [x][j]? = some u → (w.alloc (.cells #[x] t)).cell? ((⟨k, 0, none⟩ : Addr).add j) = some u := by
  subst hk; exact cell_one_new w x t

set_option maxRecDepth 100000 in
set_option maxHeartbeats 2000000 in
theorem Path_in (n : Nat) (hn : 5 ≤ n) (v : Value) (ps : List Part) (w : World) (hs : Spine w v ps) (hp : ps.length ≤ 1000000) (hj : (pathOf ps).length ≤ 140737488355328) :
    CallsIn Fence.wide n Tryd.prog 17 #[v] w fun e W' => e = .returned (.string ⟨(pathOf ps).toArray⟩) ∧ Ext w W' := by
  obtain ⟨i0, hi, hz0, hz1, hz2⟩ := info_parts infoString
  have HI := Lib.hid (And.intro hi (And.intro hz0 (And.intro hz1 hz2))); clear hi hz0 hz1 hz2
  have HJ := Lib.hid hj; clear hj
  refine callsIn_of_wp_marks Tryd.func17 rfl trivial ?_ rfl
  simp only [Tryd.ntmps17, List.size_toArray, List.length_cons, List.length_nil, Nat.reduceAdd, Nat.reduceSub, Array.replicate_succ, Array.replicate_zero, List.push_toArray, List.append_toArray, List.nil_append, List.cons_append]
  gi_wp2_with fail
  refine ⟨trivial, fun _ => by omega, (around_in _ _ _ hs.form).mono ?_⟩
  rintro e w' ⟨rfl, rfl⟩
  gi_wp2
  have bO := Boxed.new w 80 (.slice none 0 0)
  have bN := Boxed.new (w.alloc (.cells #[.slice none 0 0] 80)) 31 v
  rw [World.size_alloc] at bN
  have hB0 : Below w.heap.size w ((w.alloc (.cells #[.slice none 0 0] 80)).alloc (.cells #[v] 31)) := ((Ext.refl w).alloc _).alloc _
  refine wpIn_rangeFunc_ownG rfl (by omega) (gf := 57) (lb := #[.pointer (some ⟨w.heap.size + 1, 0, none⟩)]) rfl trivial (enters_of Tryd.func57 (by kernel_rfl) rfl)
    (around_stops (n - 1) (by omega) (w.heap.size + 1) w _ v ps hs hB0 bN.cell) belowK_t (belowK_b (by simp; omega)) (Below.refl _ _) (fun _ => rfl)
    (fun pre W => (∃ v, Boxed W w.heap.size 80 v ∧ W.ownsRow w.heap.size 9 1 v (wordsOf pre).length ((wordsOf pre).map Value.string) ∧ True) ∧ Below w.heap.size w W)
    (fun _ _ _ => False)
    (OwnFrom.and (Own.from (holdsRow_own w.heap.size w.heap.size 80 9 1 (fun pre => (wordsOf pre).length) (fun pre => (wordsOf pre).map Value.string) (fun _ _ => True)) _) (ownFrom_below (Nat.le_refl _) (by simp; omega)))
    (fun _ _ _ _ _ hs _ _ => hs)
    ⟨⟨_, bO.alloc _, World.ownsRow_nil _ _ _ _, trivial⟩, hB0⟩
    (fun x => { tmps := #[v, undef, .string ⟨#[]⟩, .pointer (some ⟨w.heap.size, 0, none⟩), x.val, undef, undef, v, .func (.func 57) #[] #[.pointer (some ⟨w.heap.size + 1, 0, none⟩)], x.val, undef, undef, undef, undef, undef, undef, undef, undef, undef, undef, undef, undef, undef], defers := [] }) ?assign ?body ?done ?stop
  case assign =>
    intro l x W K hK
    gi_wp2
    exact hK
  case body =>
    rintro l pre x W ⟨⟨v, hv, hrow, htriv⟩, hB⟩ hlen
    clear htriv
    have hc := hv.cell
    have hsz : w.heap.size ≤ W.heap.size := hB.size
    have hwl := wordsOf_le pre
    cases x with
    | code c =>
      dsimp only [Part.val]
      gi_wp2
      exact ⟨(KeepsOthers.alloc W _).from _, (Below.refl _ W).alloc (by omega) _, ⟨v, hv.alloc _, by rw [wordsOf_append]; simpa [wordsOf] using hrow.alloc _, trivial⟩, hB.alloc (by omega) _⟩
    | place p u x =>
      dsimp only [Part.val]
      gi_wp2
      exact ⟨(KeepsOthers.alloc W _).from _, (Below.refl _ W).alloc (by omega) _, ⟨v, hv.alloc _, by rw [wordsOf_append]; simpa [wordsOf] using hrow.alloc _, trivial⟩, hB.alloc (by omega) _⟩
    | word s u x =>
      dsimp only [Part.val]
      have hrow2 := hrow.alloc (.cells #[.iface u x, .string s, .bool false] 82)
      have hv2 := hv.alloc (.cells #[.iface u x, .string s, .bool false] 82)
      have HR2 := Lib.hid hrow2; clear hrow2
      have hc2 := hv2.cell
      gi_wp2_with (gi_at_builtin; go_loud (refine wpListIn_append_own _ rfl _ _ 80 rfl w.heap.size 9 i0 (.string ⟨#[]⟩) 1 16 Tryd.underlying80 HI.out.1 HI.out.2.1 HI.out.2.2.1 HI.out.2.2.2 rfl (by decide) _ _ _ rfl (HR2.out.alloc _) ⟨W.heap.size + 1, 0, none⟩ 1 1 [.string s] rfl rfl ?ha (by simp [Value.oneCell']) (by unfold maxLen; omega) (by omega) (by simp; omega) ?hb))
      case ha =>
        exact cell_one_at _ _ _ _ (by simp)
      case hb =>
        intro v' w1 hown' hgrow hnn
        clear hnn
        obtain ⟨g', cap', rfl⟩ := ownsRow_succ hown'
        obtain ⟨hv1, hv2', hr2, hk2, hb2⟩ := hv2.appended (by decide) HR2.out (by simp; omega) (Nat.le_refl _) hown' hgrow
        have hc1 := hv1.cell
        have hf1 := hv1.frozen
        have HF := Lib.hid (And.intro hv2' (And.intro hr2 (And.intro hk2 hb2)))
        clear hown' hgrow hr2 hk2 hb2 hv2' hv1
        gi_wp2
        refine ⟨((KeepsOthers.alloc W _).trans HF.out.2.2.1).from _, ((Below.refl _ W).alloc (by omega) _).trans HF.out.2.2.2, ⟨_, HF.out.1, ?_, trivial⟩, (hB.alloc (by omega) _).trans HF.out.2.2.2⟩
        rw [wordsOf_append]
        simpa [wordsOf] using HF.out.2.1
    | row r =>
      dsimp only [Part.val]
      gi_wp2
      exact ⟨(KeepsOthers.alloc W _).from _, (Below.refl _ W).alloc (by omega) _, ⟨v, hv.alloc _, by rw [wordsOf_append]; simpa [wordsOf] using hrow.alloc _, trivial⟩, hB.alloc (by omega) _⟩
  case done =>
    rintro D ys W hD rfl ⟨⟨v, hv, hrow, htriv⟩, hB⟩ hK
    have hc := hv.cell
    gi_wp2_with fail
    have hwy := wordsOf_le ys
    have hfin : CallsIn Fence.wide (n - 1) Tryd.prog 42 #[v, .string ⟨#[47]⟩] W fun e W' => e = .returned (.string ⟨(pathOf ys).toArray⟩) ∧ Ext W W' := by
      refine callsIn_wide.2 ?_
      obtain ⟨hl, hv'⟩ := hrow
      rcases hv' with ⟨rfl, hz⟩ | ⟨g, cap, cur, rfl, hg, hgb, hle, hmx, hcs, htk⟩
      · have : wordsOf ys = [] := List.eq_nil_of_length_eq_zero hz
        refine (Tryd.strings_Join_none _ _ _ _).mono ?_
        rintro e W' ⟨rfl, rfl⟩
        exact ⟨by unfold pathOf; rw [this]; rfl, Ext.refl _⟩
      · have hjj := HJ.out
        refine (Tryd.strings_Join g 0 cap (wordsOf ys) ⟨#[47]⟩ W ?_ (Array.getElem?_eq_some_iff.1 hgb).1 (by omega) hle hjj).mono ?_
        · intro j x hx
          rw [Lib.cell_of_heap hgb, Nat.zero_add]
          have hj : j < (wordsOf ys).length := (List.getElem?_eq_some_iff.1 hx).1
          have e2 : (cur.toList.take ((wordsOf ys).length * 1))[j]? = cur[j]? := by
            rw [List.getElem?_take, if_pos (by omega), Array.getElem?_toList]
          rw [← e2, htk, List.getElem?_map, hx]
          rfl
        · rintro e W' ⟨rfl, hb⟩
          exact ⟨rfl, hb⟩
    clear hc hrow hv htriv
    refine ⟨trivial, fun _ => by omega, hfin.mono ?_⟩
    rintro e W2 ⟨rfl, hx2⟩
    have hK2 : W2.heap[D]? = some (.deferred (some [])) := heap_ext hx2 hK
    have hxx : Below w.heap.size w W2 := hB.trans (Below.mono hx2 hB.size)
    clear hK hfin
    gi_wp2
    refine ⟨by simp, .inl ⟨_, _, rfl, run_takeDeferred hK2, ?_⟩⟩
    exact ⟨_, results_tmp rfl _ _ _, rfl, hxx.trans (belowK_b (w := w) (Nat.le_refl _) W2 D _ _ (by simp at hD; omega) hK2 rfl rfl)⟩
  case stop =>
    rintro D c pre W _ _ h _
    exact h.elim
end Go.Proofs.YtlcnicgjlddldaaDoor
