/- fault.Join, its faults clear of some blocks. -/
import Derived.Test.YtlcnicgjlddldaaDoorFaultP
import Derived.Test.YtlcnicgjlddldaaDoorRefRep
namespace Go.Proofs.YtlcnicgjlddldaaDoor
open Go Go.RowKit

/-- After i errors: the new row's cells. -/
structure JoinInvS (S : Nat → Prop) (w wr : World) (ts : List (Option Tr)) (i : Nat) (vals : List Value) (sl : Value) : Prop where
  below : Below w.heap.size w wr
  cell : wr.heap[w.heap.size]? = some (.cells #[sl, .bool false] 95 (0, 0))
  own : wr.ownsRow (w.heap.size + 1) 31 1 sl vals.length vals
  reps : RepValsS S w (somes (ts.take i)) vals
  ne : sl.ownBlock ≠ some w.heap.size

set_option maxHeartbeats 4000000 in
set_option maxRecDepth 100000 in
theorem Join_someS (S : Nat → Prop) (ts : List (Option Tr)) (b off cap : Nat) (w : World) (hS : ∀ k, S k → k < w.heap.size) (he : ErrsS S w b off ts) (hn : ts.length ≤ 1000000) :
    Calls Tryd.prog 25 #[.slice (some ⟨b, off, none⟩) ts.length cap] w fun e w' => ∃ v, e = .returned v ∧ RepOS S w' (joined ts) v ∧ Ext w w' := by
  obtain ⟨i0, hi, hz0, hz1, hz2⟩ := info_parts infoError
  have HE := Lib.hid he; clear he
  have HS' := Lib.hid hS; clear hS
  have HI := Lib.hid (And.intro hi (And.intro hz0 (And.intro hz1 hz2))); clear hi hz0 hz1 hz2
  go_enter Tryd.func25, Tryd.ntmps25
  go_wp2
  go_loopg [10] ts.length (fun k p wr => ∃ (i : Nat) (vals : List Value) (sl : Value), i + k = ts.length ∧ p = .int .i64 i ∧ Hid (JoinInvS S w wr ts i vals sl))
  case atStart => exact ⟨0, [], .slice none 0 0, by omega, rfl, (Ext.refl w).alloc _, Go.heap_alloc_new w _, World.ownsRow_nil _ _ _ _, rfl, by simp [Value.ownBlock]⟩
  case round =>
    obtain ⟨i, vals, sl, hik, rfl, hinv⟩ := hrel
    have HK := Lib.hid hik; clear hik
    have hi1 : i ≤ ts.length := by have := HK.out; omega
    have c0 : wr.cell? ⟨w.heap.size, 0, none⟩ = some sl := by rw [Lib.cell_of_heap hinv.out.cell]; rfl
    have c1 : wr.cell? ⟨w.heap.size, 1, none⟩ = some (.bool false) := by rw [Lib.cell_of_heap hinv.out.cell]; rfl
    by_cases hlt : i < ts.length
    · obtain ⟨t, ht⟩ : ∃ t, ts[i]? = some t := ⟨ts[i], List.getElem?_eq_getElem hlt⟩
      obtain ⟨v, hcv, hrv⟩ := HE.out i t ht
      have hcv' : wr.cell? ⟨b, off + i, none⟩ = some v := Ext.cell (w := w) (w' := wr) hinv.out.below hcv
      have HT := Lib.hid ht; clear ht hcv
      cases t with
      | none =>
        obtain rfl : v = .nilIface := hrv
        go_wp2
        go_roundg (gk - 1)
        case measure => have := HK.out; omega
        case rel => exact ⟨i + 1, vals, sl, by have := HK.out; omega, by go_num, hinv.out.below, hinv.out.cell, hinv.out.own, by rw [somes_take ts i none HT.out]; simpa [somes] using hinv.out.reps, hinv.out.ne⟩
      | some t =>
        obtain ⟨u, x, rfl⟩ := RepS.form hrv
        have HV := Lib.hid hrv; clear hrv
        have hvl : vals.length ≤ 1000000 := by
          have h1 := hinv.out.reps.length
          have h2 := somes_le (ts.take i)
          rw [List.length_take] at h2
          omega
        have hso : wr.heap.size ≥ w.heap.size + 1 := (Array.getElem?_eq_some_iff.1 hinv.out.cell).1
        go_wp2_with (at_builtin; go_loud (refine wpList_append_own _ rfl _ _ 24 rfl (w.heap.size + 1) 31 i0 .nilIface 1 16 Tryd.underlying24 HI.out.1 HI.out.2.1 HI.out.2.2.1 HI.out.2.2.2 rfl (by decide) _ _ _ rfl (hinv.out.own.alloc _) ⟨wr.heap.size, 0, none⟩ 1 1 [.iface u x] rfl rfl ?g1 (by simp [Value.oneCell']) (by unfold maxLen; omega) (by omega) (by simp; omega) ?g2))
        case g1 =>
          exact cell_one_here _ _ _ _ rfl
        case g2 =>
          intro v' w1 hown' hgrow hnn
          clear hnn
          obtain ⟨g', cap', rfl⟩ := ownsRow_succ hown'
          have hb1 : w1.heap[w.heap.size]? = some (.cells #[sl, .bool false] 95 (0, 0)) := by
            rw [hgrow.block w.heap.size (by simp; omega) (fun e => hinv.out.ne e.symm)]
            exact heap_ext' ((Ext.refl wr).alloc _) hinv.out.cell
          have hbel1 : Below w.heap.size w w1 := (hinv.out.below.alloc (by omega) _).grown hgrow (by simp; omega) (fun k ek => by
            have := (hinv.out.own.alloc (.cells #[.iface u x] 31)).lt k ek; omega)
          have hgl : w.heap.size + 1 ≤ g' := (hown'.lt g' rfl).1
          have e0 : w1.cell? ⟨w.heap.size, 0, none⟩ = some sl := by rw [Lib.cell_of_heap hb1]; rfl
          have f0 : w1.frozen? ⟨w.heap.size, 0, none⟩ = false := Lib.frozen_of_heap hb1 0
          have hb2 := heap_setCell_at hb1 0 (.slice (some ⟨g', 0, none⟩) (vals.length + 1) cap')
          have hbel2 : Below w.heap.size w (w1.setCell ⟨w.heap.size, 0, none⟩ (.slice (some ⟨g', 0, none⟩) (vals.length + 1) cap')) := hbel1.setCell (p := ⟨w.heap.size, 0, none⟩) (Nat.le_refl _) _
          have hown2 := ownsRow_setCell_other hown' (a := ⟨w.heap.size, 0, none⟩) (by simp [Value.ownBlock]; omega) (.slice (some ⟨g', 0, none⟩) (vals.length + 1) cap')
          have d1 : (w1.setCell ⟨w.heap.size, 0, none⟩ (.slice (some ⟨g', 0, none⟩) (vals.length + 1) cap')).cell? ⟨w.heap.size, 1, none⟩ = some (.bool false) := by rw [Lib.cell_of_heap hb2]; rfl
          have HB := Lib.hid (And.intro hb2 (And.intro hbel2 hown2))
          clear hb1 hbel1 hown' hgrow c0 c1 hb2 hbel2 hown2 hcv'
          go_wp2_with (go_at_call 49; refine (strange_rep _ (Rep.ext (w := w) HB.out.2.1 (RepS.rep HV.out))).mono ?_)
          rintro e w3 ⟨rfl, hx3⟩
          have hb3 := heap_ext' hx3 HB.out.1
          have hb4 := heap_setCell_at hb3 1 (.bool false)
          have e3 : w3.cell? ⟨w.heap.size, 1, none⟩ = some (.bool false) := by rw [Lib.cell_of_heap hb3]; rfl
          have f3 : w3.frozen? ⟨w.heap.size, 1, none⟩ = false := Lib.frozen_of_heap hb3 1
          have H4 := Lib.hid hb4
          clear hb3 hb4
          go_wp2
          go_roundg (gk - 1)
          case measure => have := HK.out; omega
          case rel =>
            refine ⟨i + 1, vals ++ [.iface u x], .slice (some ⟨g', 0, none⟩) (vals.length + 1) cap', by have := HK.out; omega, by go_num, ?_, H4.out, ?_, ?_, by simp [Value.ownBlock]; omega⟩
            · exact ((HB.out.2.1 : Below w.heap.size w _).trans (Below.mono hx3 (HB.out.2.1 : Below w.heap.size w _).size)).setCell (p := ⟨w.heap.size, 1, none⟩) (Nat.le_refl _) _
            · rw [List.length_append]
              exact ownsRow_setCell_other (ownsRow_ext hx3 HB.out.2.2) (a := ⟨w.heap.size, 1, none⟩) (by simp [Value.ownBlock]; omega) _
            · rw [somes_take ts i (some t) HT.out]
              exact RepValsS.snoc HV.out hinv.out.reps
    · have hie : i = ts.length := by omega
      subst hie
      have hreps : RepValsS S w (somes ts) vals := by
        have := hinv.out.reps
        rwa [List.take_length] at this
      have hx : Ext w wr := hinv.out.below
      have hcells := own_cells hinv.out.own
      have hown := hinv.out.own
      have HR := Lib.hid hreps; clear hreps
      have HX := Lib.hid hx; clear hx
      clear hi1 hlt HK HI
      rcases vals with _ | ⟨v1, _ | ⟨v2, vs⟩⟩
      · have hs0 : somes ts = [] := List.eq_nil_of_length_eq_zero HR.out.length.symm
        have hsl : ∃ a c, sl = .slice a 0 c := by
          rcases hown.2 with ⟨rfl, _⟩ | ⟨g, c, cur, rfl, _⟩
          · exact ⟨_, _, rfl⟩
          · exact ⟨_, _, rfl⟩
        obtain ⟨a, c, rfl⟩ := hsl
        clear hown hcells hinv
        have HS := Lib.hid hs0; clear hs0
        go_wp2
        go_ret
        exact ⟨_, rfl, by unfold joined; rw [HS.out]; rfl, HX.out⟩
      · obtain ⟨g, cp, rfl⟩ := ownsRow_succ (k := 0) hown
        have hl := HR.out.length
        obtain ⟨t1, ht1⟩ : ∃ t1, somes ts = [t1] := by
          match hh : somes ts with
          | [] => rw [hh] at hl; simp at hl
          | [t1] => exact ⟨t1, rfl⟩
          | _ :: _ :: _ => rw [hh] at hl; simp at hl
        have hc := hcells g cp rfl 0 v1 rfl
        have hv1 : RepS S w t1 v1 := by
          have := HR.out
          rw [ht1] at this
          obtain ⟨v, vr, e, h, _⟩ := this
          injection e with e1 e2
          rw [e1]; exact h
        obtain ⟨u, x, rfl⟩ := hv1.form
        clear hown hcells hinv hl
        have HS := Lib.hid (And.intro ht1 hv1); clear ht1 hv1
        go_wp2
        go_ret
        exact ⟨_, rfl, by unfold joined; rw [HS.out.1]; exact RepS.ext HX.out HS.out.2, HX.out⟩
      · obtain ⟨g, cp, rfl⟩ := ownsRow_succ (k := vs.length + 1) hown
        have hgl : w.heap.size + 1 ≤ g := (hown.lt g rfl).1
        have hl := HR.out.length
        have hz0 : ((vs.length : Int) + 1 + 1 == 0) = false := by simp; omega
        have hz1 : ((vs.length : Int) + 1 + 1 == 1) = false := by simp; omega
        have hcap : vs.length + 1 + 1 ≤ cp := by
          rcases hown.2 with ⟨e, _⟩ | ⟨g', c', cur, e, _, _, hle, _⟩
          · cases e
          · injection e with e1 e2 e3
            subst e3
            exact hle
        have hj : joined ts = some (.row (somes ts)) := by
          unfold joined
          match hh : somes ts with
          | [] => rw [hh] at hl; simp at hl
          | [_] => rw [hh] at hl; simp at hl
          | _ :: _ :: _ => rfl
        have hrow : RepS S wr (.row (somes ts)) (.iface 93 (.pointer (some ⟨w.heap.size, 0, none⟩))) := by
          have hl' : (somes ts).length = vs.length + 1 + 1 := by rw [← hl]; rfl
          refine ⟨w.heap.size, g, 0, cp, rfl, by rw [hl']; exact c0, c1, by omega, ?_, by omega, fun h => ?_, fun h => ?_, ?_⟩
          · have := somes_le ts; omega
          · have := HS'.out _ h; omega
          · have := HS'.out _ h; omega
          · exact RepValsS.all HX.out HR.out (hcells g cp rfl)
        have HQ := Lib.hid (And.intro hj hrow); clear hj hrow
        clear hown hcells hinv hl hcap
        go_wp2
        go_ret
        exact ⟨_, rfl, by rw [HQ.out.1]; exact HQ.out.2, HX.out⟩

end Go.Proofs.YtlcnicgjlddldaaDoor
