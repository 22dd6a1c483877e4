/- The document's wrapping and opening; both sides told as one answer. -/
import Derived.Test.YtlcnicgjlddldaaDoorRefSum
import Derived.Test.YtlcnicgjlddldaaDoorWrap
import Derived.Test.YtlcnicgjlddldaaDoorFaultE
namespace Go.Proofs.YtlcnicgjlddldaaDoor
open Go Go.RowKit

/-- An error by its code: nothing, or the code itself. -/
def errV (c : Int) : Value := if c = 0 then .nilIface else .iface 35 (.int .i64 c)
theorem errV_zero : errV 0 = .nilIface := rfl
theorem Code_err (c : Int) (w : World) (hg : ErrType w) (h0 : 0 ≤ c) (h1 : c ≤ 1000) : Calls Tryd.prog 15 #[errV c] w fun e w' => e = .returned (.int .i64 c) ∧ Ext w w' := by
  by_cases hc : c = 0
  · subst hc; exact Code_nil w
  · have he : errV c = .iface 35 (.int .i64 c) := if_neg hc
    rw [he]
    exact Code_rep (.code c) _ w hg ⟨rfl, hc, by omega, by omega⟩
def none0 : ByteArray := ⟨#[]⟩
def wrapA (s : ByteArray) : ByteArray × Nat := if s.size ≤ 4096 then (wrapOf s, 0) else (⟨#[]⟩, 16)
def bodyOf (s : ByteArray) : ByteArray := s.extract 0 (s.size - 4)
def tailOf (s : ByteArray) : ByteArray := s.extract (s.size - 4) s.size
open Classical in
noncomputable def openA (s : ByteArray) : ByteArray × Nat := if s.size < 4 then (⟨#[]⟩, 11) else if 4100 < s.size then (⟨#[]⟩, 16) else if tailOf s = ⟨(le4 (sumOf (bts (bodyOf s)))).toArray⟩ then (bodyOf s, 0) else (⟨#[]⟩, 17)
theorem body_tail (s : ByteArray) (h : 4 ≤ s.size) : bodyOf s ++ tailOf s = s ∧ (bodyOf s).size = s.size - 4 ∧ (tailOf s).size = 4 := by
  unfold bodyOf tailOf
  refine ⟨?_, by rw [ByteArray.size_extract]; omega, by rw [ByteArray.size_extract]; omega⟩
  apply ba_ext
  rw [bts_append, bts_extract, bts_extract, List.drop_zero, List.take_of_length_le (l := bts s) (i := s.size) (by rw [bts_len]; exact Nat.le_refl _), List.take_append_drop]
theorem Wrap_any (s : ByteArray) (w : World) (_hs : s.size ≤ 1000000) : Calls Tryd.prog 32 #[.string s] w fun e w' => e = .returned (.tuple #[.string (wrapA s).1, errV ((wrapA s).2 : Int)]) ∧ Ext w w' := by
  by_cases h : s.size ≤ 4096
  · have e : wrapA s = (wrapOf s, 0) := if_pos h
    rw [e]
    exact Wrap_ok s w h
  · have e : wrapA s = (⟨#[]⟩, 16) := if_neg h
    rw [e]
    refine (Wrap_over s w (by omega)).mono ?_
    rintro e w' ⟨rfl, rfl⟩
    exact ⟨rfl, Ext.refl _⟩
theorem Open_any (s : ByteArray) (w : World) (hs : s.size ≤ 1000000) : Calls Tryd.prog 33 #[.string s] w fun e w' => e = .returned (.tuple #[.string (openA s).1, errV ((openA s).2 : Int)]) ∧ Ext w w' := by
  unfold openA
  by_cases h4 : s.size < 4
  · rw [if_pos h4]
    refine (Open_short s w h4).mono ?_
    rintro e w' ⟨rfl, rfl⟩
    exact ⟨rfl, Ext.refl _⟩
  · rw [if_neg h4]
    by_cases h5 : 4100 < s.size
    · rw [if_pos h5]
      refine (Open_over s w h5 hs).mono ?_
      rintro e w' ⟨rfl, rfl⟩
      exact ⟨rfl, Ext.refl _⟩
    · rw [if_neg h5]
      obtain ⟨e1, e2, e3⟩ := body_tail s (by omega)
      have H := Open_parts (bodyOf s) (tailOf s) w (by omega) e3
      rw [e1] at H
      refine H.mono ?_
      rintro e w' ⟨hy, hn, hx⟩
      by_cases ht : tailOf s = ⟨(le4 (sumOf (bts (bodyOf s)))).toArray⟩
      · rw [if_pos ht]; exact ⟨hy ht, hx⟩
      · rw [if_neg ht]; exact ⟨hn ht, hx⟩
theorem arr4_new (w : World) (g : Nat) (T : TypeId) (f : Nat → Nat) (hg : g = w.heap.size) : Arr4 (w.alloc (.cells #[.int .u8 (f 0), .int .u8 (f 1), .int .u8 (f 2), .int .u8 (f 3)] T)) g f := by
  subst hg
  refine ⟨⟨_, _, Go.heap_alloc_new _ _⟩, fun i hi => ?_⟩
  rw [Lib.cell_of_heap (Go.heap_alloc_new _ _)]
  match i, hi with
  | 0, _ => rfl
  | 1, _ => rfl
  | 2, _ => rfl
  | 3, _ => rfl
theorem text_cells (w w2 : World) (x y : Value) (hx : Ext (w.alloc (.cells #[x, y] 97)) w2) : w2.cell? ⟨w.heap.size, 0, none⟩ = some x ∧ w2.cell? ⟨w.heap.size, 1, none⟩ = some y ∧ w2.frozen? ⟨w.heap.size, 0, none⟩ = false ∧ w2.frozen? ⟨w.heap.size, 1, none⟩ = false := by
  have hl : w.heap.size < (w.alloc (.cells #[x, y] 97)).heap.size := by simp
  have hf : ∀ i, (w.alloc (.cells #[x, y] 97)).frozen? ⟨w.heap.size, i, none⟩ = false := fun i => by
    have hb := Go.heap_alloc_new w (.cells #[x, y] 97)
    unfold World.frozen?
    rw [show (⟨w.heap.size, i, none⟩ : Addr).block = w.heap.size from rfl, hb]
    simp
  refine ⟨hx.cell ?_, hx.cell ?_, (hx.frozen hl).trans (hf 0), (hx.frozen hl).trans (hf 1)⟩
  · rw [Lib.cell_of_heap (Go.heap_alloc_new _ _)]; rfl
  · rw [Lib.cell_of_heap (Go.heap_alloc_new _ _)]; rfl
theorem text_after (W : World) (g : Nat) (x y X Y : Value) (c0 : W.cell? ⟨g, 0, none⟩ = some x) (c1 : W.cell? ⟨g, 1, none⟩ = some y) :
    ((W.setCell ⟨g, 0, none⟩ X).setCell ⟨g, 1, none⟩ Y).cell? ⟨g, 0, none⟩ = some X ∧ ((W.setCell ⟨g, 0, none⟩ X).setCell ⟨g, 1, none⟩ Y).cell? ⟨g, 1, none⟩ = some Y := by
  constructor
  · rw [World.cell?_setCell_other _ _ _ _ (addr_ne (by decide))]
    exact World.cell?_setCell_same _ _ _ c0
  · refine World.cell?_setCell_same _ _ _ (u := y) ?_
    rw [World.cell?_setCell_other _ _ _ _ (addr_ne (by decide))]
    exact c1
set_option maxHeartbeats 4000000 in
set_option maxRecDepth 100000 in
theorem refWrap_ok (s : ByteArray) (w : World) (hs : s.size ≤ 4096) : Calls Tryd.prog 50 #[.string s] w fun e w' => e = .returned (.agg #[.string (wrapOf s), .int .i64 0]) ∧ Ext w w' := by
  have hn := sumOf_lt (bts s)
  have hv0 : ((sumOf (bts s) : Nat) : Int) % 256 = ((leByte (sumOf (bts s)) 0 : Nat) : Int) := by unfold leByte; omega
  have hv1 : ((sumOf (bts s) : Nat) : Int) / 256 % 256 = ((leByte (sumOf (bts s)) 1 : Nat) : Int) := by unfold leByte; omega
  have hv2 : ((sumOf (bts s) : Nat) : Int) / 65536 % 256 = ((leByte (sumOf (bts s)) 2 : Nat) : Int) := by unfold leByte; omega
  have hv3 : ((sumOf (bts s) : Nat) : Int) / 16777216 = ((leByte (sumOf (bts s)) 3 : Nat) : Int) := by unfold leByte; omega
  go_enter Tryd.func50, Tryd.ntmps50
  go_wp2_with fail
  refine (refSum_of s _ (by omega)).mono ?_
  rintro e w2 ⟨rfl, rfl⟩
  have hz : (⟨(le4 (sumOf (bts s))).toArray⟩ : ByteArray).size = 4 := by rw [size_mk (le4 _), le4_len]
  have hW : s ++ ⟨(le4 (sumOf (bts s))).toArray⟩ = wrapOf s := rfl
  generalize sumOf (bts s) = n at hv0 hv1 hv2 hv3 hn hz hW ⊢
  go_wp2
  rw [conv_le4 _ (w.heap.size + 1) 4 n (leByte n) (arr4_new (w.alloc (.cells #[.string ⟨#[]⟩, .int .i64 0] 97)) (w.heap.size + 1) 5 (leByte n) (by simp)) (fun i _ => rfl)]
  go_wp2
  exact bodyPost_ret (v := .agg #[.string (wrapOf s), .int .i64 0]) (by simp [results, Tryd.results50, go_sem]) rfl ⟨rfl, ((Ext.refl w).alloc _).alloc _⟩
set_option maxHeartbeats 4000000 in
set_option maxRecDepth 100000 in
theorem refWrap_over (s : ByteArray) (w : World) (hs : 4096 < s.size) (hb : s.size ≤ 1000000) : Calls Tryd.prog 50 #[.string s] w fun e w' => e = .returned (.agg #[.string ⟨#[]⟩, .int .i64 16]) ∧ Ext w w' := by
  go_enter Tryd.func50, Tryd.ntmps50
  go_wp2
  exact bodyPost_ret (v := .agg #[.string ⟨#[]⟩, .int .i64 16]) (by simp [results, Tryd.results50, go_sem]) rfl ⟨rfl, (Ext.refl w).alloc _⟩
theorem refWrap_any (s : ByteArray) (w : World) (hs : s.size ≤ 1000000) : Calls Tryd.prog 50 #[.string s] w fun e w' => e = .returned (.agg #[.string (wrapA s).1, .int .i64 ((wrapA s).2 : Int)]) ∧ Ext w w' := by
  by_cases h : s.size ≤ 4096
  · have e : wrapA s = (wrapOf s, 0) := if_pos h
    rw [e]
    exact refWrap_ok s w h
  · have e : wrapA s = (⟨#[]⟩, 16) := if_neg h
    rw [e]
    exact refWrap_over s w (by omega) hs
set_option maxHeartbeats 4000000 in
set_option maxRecDepth 100000 in
theorem refOpen_short (s : ByteArray) (w : World) (hs : s.size < 4) : Calls Tryd.prog 51 #[.string s] w fun e w' => e = .returned (.agg #[.string ⟨#[]⟩, .int .i64 11]) ∧ Ext w w' := by
  go_enter Tryd.func51, Tryd.ntmps51
  go_wp2
  exact bodyPost_ret (v := .agg #[.string ⟨#[]⟩, .int .i64 11]) (by simp [results, Tryd.results51, go_sem]) rfl ⟨rfl, (Ext.refl w).alloc _⟩
set_option maxHeartbeats 4000000 in
set_option maxRecDepth 100000 in
theorem refOpen_over (s : ByteArray) (w : World) (hs : 4100 < s.size) (hb : s.size ≤ 1000000) : Calls Tryd.prog 51 #[.string s] w fun e w' => e = .returned (.agg #[.string ⟨#[]⟩, .int .i64 16]) ∧ Ext w w' := by
  go_enter Tryd.func51, Tryd.ntmps51
  go_wp2_with fail
  refine (refWrap_over (s.extract 0 (s.size - 4)) _ (by rw [ByteArray.size_extract]; omega) (by rw [ByteArray.size_extract]; omega)).mono ?_
  rintro e w2 ⟨rfl, hx⟩
  obtain ⟨c0, c1, f0, f1⟩ := text_cells w (w2.alloc (.cells #[.string ⟨#[]⟩, .int .i64 16] 97)) _ _ (hx.alloc _)
  have hE : Ext w w2 := ((Ext.refl w).alloc _).trans hx
  have HE := Lib.hid hE; clear hE hx
  go_wp2
  obtain ⟨d0, d1⟩ := text_after _ _ _ _ (.string ⟨#[]⟩) (.int .i64 16) c0 c1
  exact bodyPost_ret (v := .agg #[.string ⟨#[]⟩, .int .i64 16]) (by simp [results, Tryd.results51, go_sem, d0, d1]) rfl ⟨rfl, ((HE.out.alloc _).setCell (Nat.le_refl _) _).setCell (Nat.le_refl _) _⟩
set_option maxHeartbeats 4000000 in
set_option maxRecDepth 100000 in
theorem refOpen_parts (a t : ByteArray) (w : World) (ha : a.size ≤ 4096) (ht : t.size = 4) : Calls Tryd.prog 51 #[.string (a ++ t)] w fun e w' =>
    (t = ⟨(le4 (sumOf (bts a))).toArray⟩ → e = .returned (.agg #[.string a, .int .i64 0])) ∧ (t ≠ ⟨(le4 (sumOf (bts a))).toArray⟩ → e = .returned (.agg #[.string ⟨#[]⟩, .int .i64 17])) ∧ Ext w w' := by
  have e1 : (a ++ t).extract 0 a.size = a := extract_left a t
  by_cases hq : t = ⟨(le4 (sumOf (bts a))).toArray⟩
  · have hb : ((wrapOf a).toList == (a ++ t).toList) = true := by
      rw [beq_iff_eq, hq]; rfl
    have HQ := Lib.hid hq; clear hq
    go_enter Tryd.func51, Tryd.ntmps51
    go_wp2_with fail
    refine (refWrap_ok a _ ha).mono ?_
    rintro e w2 ⟨rfl, hx⟩
    obtain ⟨c0, c1, f0, f1⟩ := text_cells w (w2.alloc (.cells #[.string (wrapOf a), .int .i64 0] 97)) _ _ (hx.alloc _)
    have hE : Ext w w2 := ((Ext.refl w).alloc _).trans hx
    have HE := Lib.hid hE; clear hE hx
    go_wp2
    obtain ⟨d0, d1⟩ := text_after _ _ _ _ (.string a) (.int .i64 0) c0 c1
    exact bodyPost_ret (v := .agg #[.string a, .int .i64 0]) (by simp [results, Tryd.results51, go_sem, d0, d1]) rfl ⟨fun _ => rfl, fun h => absurd HQ.out h, ((HE.out.alloc _).setCell (Nat.le_refl _) _).setCell (Nat.le_refl _) _⟩
  · have hb : ((wrapOf a).toList == (a ++ t).toList) = false := by
      rw [beq_eq_false_iff_ne, ByteArray.toList_eq, ByteArray.toList_eq]
      intro h
      apply hq
      have h1 : bts (wrapOf a) = bts (a ++ t) := h
      rw [bts_wrapOf, bts_append] at h1
      apply ba_ext
      rw [bts_mk (le4 _)]
      exact (List.append_cancel_left h1).symm
    have HQ := Lib.hid hq; clear hq
    go_enter Tryd.func51, Tryd.ntmps51
    go_wp2_with fail
    refine (refWrap_ok a _ ha).mono ?_
    rintro e w2 ⟨rfl, hx⟩
    obtain ⟨c0, c1, f0, f1⟩ := text_cells w (w2.alloc (.cells #[.string (wrapOf a), .int .i64 0] 97)) _ _ (hx.alloc _)
    have hE : Ext w w2 := ((Ext.refl w).alloc _).trans hx
    have HE := Lib.hid hE; clear hE hx
    go_wp2
    obtain ⟨d0, d1⟩ := text_after _ _ _ _ (.string ⟨#[]⟩) (.int .i64 17) c0 c1
    exact bodyPost_ret (v := .agg #[.string ⟨#[]⟩, .int .i64 17]) (by simp [results, Tryd.results51, go_sem, d0, d1]) rfl ⟨fun h => absurd h HQ.out, fun _ => rfl, ((HE.out.alloc _).setCell (Nat.le_refl _) _).setCell (Nat.le_refl _) _⟩
theorem refOpen_any (s : ByteArray) (w : World) (hs : s.size ≤ 1000000) : Calls Tryd.prog 51 #[.string s] w fun e w' => e = .returned (.agg #[.string (openA s).1, .int .i64 ((openA s).2 : Int)]) ∧ Ext w w' := by
  unfold openA
  by_cases h4 : s.size < 4
  · rw [if_pos h4]; exact refOpen_short s w h4
  · rw [if_neg h4]
    by_cases h5 : 4100 < s.size
    · rw [if_pos h5]; exact refOpen_over s w h5 hs
    · rw [if_neg h5]
      obtain ⟨e1, e2, e3⟩ := body_tail s (by omega)
      have H := refOpen_parts (bodyOf s) (tailOf s) w (by omega) e3
      rw [e1] at H
      refine H.mono ?_
      rintro e w' ⟨hy, hn, hx⟩
      by_cases ht : tailOf s = ⟨(le4 (sumOf (bts (bodyOf s)))).toArray⟩
      · rw [if_pos ht]; exact ⟨hy ht, hx⟩
      · rw [if_neg ht]; exact ⟨hn ht, hx⟩
theorem wrapA_code (s : ByteArray) : (wrapA s).2 ≤ 1000 ∧ (wrapA s).1.size ≤ 4100 := by
  unfold wrapA
  split
  · exact ⟨Nat.zero_le _, by rw [wrapOf_size]; omega⟩
  · exact ⟨by decide, by decide⟩
theorem openA_code (s : ByteArray) : (openA s).2 ≤ 1000 := by
  unfold openA
  repeat' split
  all_goals first | decide | exact Nat.zero_le _
end Go.Proofs.YtlcnicgjlddldaaDoor
