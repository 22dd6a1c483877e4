/- fault.Place and fault.Path. -/
import Derived.Test.YtcfboalepnbifaaDoorFaultL
import Derived.RangeFuncFrom
namespace Go.Proofs.YtcfboalepnbifaaDoor
open Go Go.RowKit Go.Shelf
attribute [local go_sem] Oper.semAt_some
attribute [local go_sem] ta_E_E ta_E_P ta_E_W ta_E_R ta_P_E ta_P_P ta_P_W ta_P_R ta_W_E ta_W_P ta_W_W ta_W_R ta_R_E ta_R_P ta_R_W ta_R_R

theorem around_in (n : Nat) (v : Value) (w : World) (hv : v = .nilIface ∨ ∃ u x, v = .iface u x) :
    CallsIn Fence.wide n Tryd.prog 29 #[v] w fun e w' => e = .returned (.func (.func 40) #[] #[.pointer (some ⟨w.heap.size, 0, none⟩)]) ∧ w' = w.alloc (.cells #[v] 40) := by
  have hmf : ∀ (fn : Fn) (first cap : Array Value) (w : World), (Instr.makeFunc fn first cap).run Tryd.prog w = .ok (.func fn first cap) w := fun _ _ _ _ => rfl
  refine callsIn_wide.2 ?_
  rcases hv with rfl | ⟨u, x, rfl⟩
  · go_enter Tryd.func29, Tryd.ntmps29
    go_wp2
    go_ret
    exact ⟨rfl, rfl⟩
  · go_enter Tryd.func29, Tryd.ntmps29
    go_wp2
    go_ret
    exact ⟨rfl, rfl⟩
theorem Spine.form {w : World} {v : Value} {l : List Part} (h : Spine w v l) : v = .nilIface ∨ ∃ u x, v = .iface u x := by
  cases l with
  | nil => exact .inl h
  | cons x l => cases x <;> exact .inr ⟨_, _, h.1⟩

theorem around_stops (n : Nat) (hn : 3 ≤ n) (Bn : Nat) (w0 w : World) (v0 : Value) (ps : List Part) (hs0 : Spine w0 v0 ps) (hx : Below w0.heap.size w0 w) (hc : w.cell? ⟨Bn, 0, none⟩ = some v0) :
    SeqStopsK Fence.wide n Tryd.prog 40 #[.pointer (some ⟨Bn, 0, none⟩)] (fun x : Part => #[x.val]) (Below w0.heap.size) (fun ys => ys = ps) (fun pre => pre <+: ps) ps.length w := fun l J Jx W hW hJ hJx hY h0 =>
  around1_in n hn l Bn w0 v0 ps J Jx hs0 (fun pre A B hj hb => hJ pre A B none hj ⟨hb.os, hb.tape, hb.output, hb.size, fun k hk _ => hb.block k hk⟩ (fun r e => by cases e)) (fun pre A B hj hb => hJx pre A B none hj ⟨hb.os, hb.tape, hb.output, hb.size, fun k hk _ => hb.block k hk⟩ (fun r e => by cases e)) hY W ((hW.cell (p := ⟨Bn, 0, none⟩) (lt_of_cell hc)).trans hc) (hx.trans (hW.mono hx.size)) h0

def placeSum : List Part → Int := List.foldl (fun s x => match x with | .place p _ _ => wrap64 (s + p) | _ => s) 0
def placeIs : List Part → Bool := List.foldl (fun s x => match x with | .place _ _ _ => true | _ => s) false

theorem placeSum_snoc (pre : List Part) (x : Part) : placeSum (pre ++ [x]) = match x with | .place p _ _ => wrap64 (placeSum pre + p) | _ => placeSum pre := by
  simp only [placeSum, List.foldl_append, List.foldl_cons, List.foldl_nil]
theorem placeIs_snoc (pre : List Part) (x : Part) : placeIs (pre ++ [x]) = match x with | .place _ _ _ => true | _ => placeIs pre := by
  simp only [placeIs, List.foldl_append, List.foldl_cons, List.foldl_nil]

theorem cell_of_box1 {W : World} {B : Nat} {v : Value} {t : TypeId} (h : W.heap[B]? = some (.cells #[v] t (0, 0))) : W.cell? ⟨B, 0, none⟩ = some v ∧ W.frozen? ⟨B, 0, none⟩ = false := by
  constructor <;> simp [World.cell?, World.frozen?, h]
theorem cell_new1 (W : World) (v : Value) (t : TypeId) : (W.alloc (.cells #[v] t)).cell? ⟨W.heap.size, 0, none⟩ = some v ∧ (W.alloc (.cells #[v] t)).frozen? ⟨W.heap.size, 0, none⟩ = false :=
  cell_of_box1 (World.alloc_heap_new W _)
theorem cell_alloc1 {W : World} {a : Addr} {v : Value} (o : Obj) (h : W.cell? a = some v) : (W.alloc o).cell? a = some v := cell_kept h (World.grownBy_alloc W o none) (fun r e => by cases e)
theorem frozen_alloc1 {W : World} {a : Addr} {v : Value} (o : Obj) (h : W.cell? a = some v) (hf : W.frozen? a = false) : (W.alloc o).frozen? a = false := (frozen_kept h (World.grownBy_alloc W o none) (fun r e => by cases e)).trans hf

/-- Two boxes written. -/
theorem two_cells {W : World} {A : Nat} {v0 v1 : Value} (hc : W.cell? ⟨A, 0, none⟩ = some v0) (hf : W.frozen? ⟨A, 0, none⟩ = false) (hc1 : W.cell? ⟨A + 1, 0, none⟩ = some v1) (hf1 : W.frozen? ⟨A + 1, 0, none⟩ = false) (x y : Value) :
    ((W.setCell ⟨A, 0, none⟩ x).setCell ⟨A + 1, 0, none⟩ y).cell? ⟨A, 0, none⟩ = some x ∧ ((W.setCell ⟨A, 0, none⟩ x).setCell ⟨A + 1, 0, none⟩ y).frozen? ⟨A, 0, none⟩ = false ∧
    ((W.setCell ⟨A, 0, none⟩ x).setCell ⟨A + 1, 0, none⟩ y).cell? ⟨A + 1, 0, none⟩ = some y ∧ ((W.setCell ⟨A, 0, none⟩ x).setCell ⟨A + 1, 0, none⟩ y).frozen? ⟨A + 1, 0, none⟩ = false := by
  have n1 : (⟨A + 1, 0, none⟩ : Addr) ≠ ⟨A, 0, none⟩ := fun e => by injection e; omega
  have n2 : (⟨A, 0, none⟩ : Addr) ≠ ⟨A + 1, 0, none⟩ := fun e => by injection e; omega
  refine ⟨?_, ?_, ?_, ?_⟩
  · rw [World.cell?_setCell_other _ _ _ _ n1]; exact World.cell?_setCell_same' _ _ _ (by rw [hc]; rfl)
  · rw [World.frozen?_setCell, World.frozen?_setCell]; exact hf
  · exact World.cell?_setCell_same' _ _ _ (by rw [World.cell?_setCell_other _ _ _ _ n2, hc1]; rfl)
  · rw [World.frozen?_setCell, World.frozen?_setCell]; exact hf1

set_option maxRecDepth 100000 in
set_option maxHeartbeats 2000000 in
theorem Place_in (n : Nat) (hn : 5 ≤ n) (v : Value) (ps : List Part) (w : World) (hs : Spine w v ps) :
    CallsIn Fence.wide n Tryd.prog 17 #[v] w fun e W' => e = .returned (.tuple #[.int .i64 (placeSum ps), .bool (placeIs ps)]) ∧ Ext w W' := by
  refine callsIn_of_wp_marks Tryd.func17 rfl trivial ?_ rfl
  simp only [Tryd.ntmps17, List.size_toArray, List.length_cons, List.length_nil, Nat.reduceAdd, Nat.reduceSub, Array.replicate_succ, Array.replicate_zero, List.push_toArray, List.append_toArray, List.nil_append, List.cons_append]
  gi_wp2_with fail
  refine ⟨trivial, fun _ => by omega, (around_in _ _ _ hs.form).mono ?_⟩
  rintro e w' ⟨rfl, rfl⟩
  gi_wp2
  have s1 := cell_new1 w (.int .i64 0) 3
  have s2 := cell_new1 (w.alloc (.cells #[.int .i64 0] 3)) (.bool false) 4
  have s3 := cell_new1 ((w.alloc (.cells #[.int .i64 0] 3)).alloc (.cells #[.bool false] 4)) v 40
  rw [World.size_alloc] at s2
  rw [World.size_alloc, World.size_alloc] at s3
  have hB0 : Below w.heap.size w (((w.alloc (.cells #[.int .i64 0] 3)).alloc (.cells #[.bool false] 4)).alloc (.cells #[v] 40)) := (((Ext.refl w).alloc _).alloc _).alloc _
  refine wpIn_rangeFunc_ownF rfl (by omega) (gf := 40) (lb := #[.pointer (some ⟨w.heap.size + 1 + 1, 0, none⟩)]) rfl trivial (enters_of Tryd.func40 (by kernel_rfl) rfl)
    (around_stops (n - 1) (by omega) (w.heap.size + 1 + 1) w _ v ps hs hB0 s3.1) belowK_t (belowK_b (by simp; omega)) (Below.refl _ _) (fun _ => rfl)
    (fun pre W => (W.cell? ⟨w.heap.size, 0, none⟩ = some (.int .i64 (placeSum pre)) ∧ W.frozen? ⟨w.heap.size, 0, none⟩ = false ∧ W.cell? ⟨w.heap.size + 1, 0, none⟩ = some (.bool (placeIs pre)) ∧ W.frozen? ⟨w.heap.size + 1, 0, none⟩ = false) ∧ Below w.heap.size w W)
    (fun _ _ _ => False)
    (OwnFrom.and (Own.from (fun s A B row hs hg hr => ⟨cell_kept hs.1 hg hr, (frozen_kept hs.1 hg hr).trans hs.2.1, cell_kept hs.2.2.1 hg hr, (frozen_kept hs.2.2.1 hg hr).trans hs.2.2.2⟩) _) (ownFrom_below (Nat.le_refl _) (by simp; omega)))
    (fun _ _ _ _ _ hs _ _ => hs)
    ⟨⟨cell_alloc1 _ (cell_alloc1 _ s1.1), frozen_alloc1 _ (cell_alloc1 _ s1.1) (frozen_alloc1 _ s1.1 s1.2), cell_alloc1 _ s2.1, frozen_alloc1 _ s2.1 s2.2⟩, hB0⟩
    (fun x => { tmps := #[v, undef, .pointer (some ⟨w.heap.size, 0, none⟩), .pointer (some ⟨w.heap.size + 1, 0, none⟩), x.val, undef, undef, v, .func (.func 40) #[] #[.pointer (some ⟨w.heap.size + 1 + 1, 0, none⟩)], x.val, undef, undef, undef, undef, undef, undef, undef, undef, undef, undef, undef, undef], defers := [] }) ?assign ?body ?done ?stop
  case assign =>
    intro l x W K hK
    gi_wp2
    exact hK
  case body =>
    rintro l pre x W ⟨⟨hc, hf, hc1, hf1⟩, hB⟩ hlen
    have hlt : w.heap.size + 1 < W.heap.size := lt_of_cell hc1
    have hlt0 : w.heap.size < W.heap.size := by omega
    cases x with
    | code c =>
      dsimp only [Part.val]
      gi_wp2
      refine ⟨KeepsOthers.alloc W _, (Below.refl _ W).alloc (by omega) _, ⟨?_, ?_, ?_, ?_⟩, hB.alloc (by omega) _⟩
      · rw [placeSum_snoc]; exact cell_alloc1 _ hc
      · exact frozen_alloc1 _ hc hf
      · rw [placeIs_snoc]; exact cell_alloc1 _ hc1
      · exact frozen_alloc1 _ hc1 hf1
    | place p u x =>
      dsimp only [Part.val]
      gi_wp2
      obtain ⟨g0, g1, g2, g3⟩ := two_cells hc hf hc1 hf1 (.int .i64 (wrap64 (placeSum pre + p))) (.bool true)
      refine ⟨((KeepsOthers.setCell W _ _).trans (KeepsOthers.setCell _ _ _)).trans (KeepsOthers.alloc _ _), (((Below.refl w.heap.size W).setCell (p := ⟨w.heap.size, 0, none⟩) (Nat.le_refl _) _).setCell (p := ⟨w.heap.size + 1, 0, none⟩) (Nat.le_succ _) _).alloc (by simp [World.setCell]; omega) _, ⟨?_, ?_, ?_, ?_⟩, ((hB.setCell (p := ⟨w.heap.size, 0, none⟩) (Nat.le_refl _) _).setCell (p := ⟨w.heap.size + 1, 0, none⟩) (Nat.le_succ _) _).alloc (by simp [World.setCell]; omega) _⟩
      · rw [placeSum_snoc]; exact cell_alloc1 _ g0
      · exact frozen_alloc1 _ g0 g1
      · rw [placeIs_snoc]; exact cell_alloc1 _ g2
      · exact frozen_alloc1 _ g2 g3
    | word s u x =>
      dsimp only [Part.val]
      gi_wp2
      refine ⟨KeepsOthers.alloc W _, (Below.refl _ W).alloc (by omega) _, ⟨?_, ?_, ?_, ?_⟩, hB.alloc (by omega) _⟩
      · rw [placeSum_snoc]; exact cell_alloc1 _ hc
      · exact frozen_alloc1 _ hc hf
      · rw [placeIs_snoc]; exact cell_alloc1 _ hc1
      · exact frozen_alloc1 _ hc1 hf1
    | row r =>
      dsimp only [Part.val]
      gi_wp2
      refine ⟨KeepsOthers.alloc W _, (Below.refl _ W).alloc (by omega) _, ⟨?_, ?_, ?_, ?_⟩, hB.alloc (by omega) _⟩
      · rw [placeSum_snoc]; exact cell_alloc1 _ hc
      · exact frozen_alloc1 _ hc hf
      · rw [placeIs_snoc]; exact cell_alloc1 _ hc1
      · exact frozen_alloc1 _ hc1 hf1
  case done =>
    rintro D ys W hD rfl ⟨⟨hc, hf, hc1, hf1⟩, hB⟩ hK
    gi_wp2
    gi_region
    obtain ⟨g0, g1, g2, g3⟩ := two_cells hc hf hc1 hf1 (.int .i64 (placeSum ys)) (.bool (placeIs ys))
    have hK' := ((KeepsOthers.setCell W ⟨w.heap.size, 0, none⟩ (.int .i64 (placeSum ys))).trans (KeepsOthers.setCell _ ⟨w.heap.size + 1, 0, none⟩ (.bool (placeIs ys)))).same D _ hK rfl
    clear hc hf hc1 hf1
    gi_wp2
    refine ⟨by simp, .inl ⟨_, _, rfl, run_takeDeferred hK', ?_⟩⟩
    have hc5 := cell_kept (W := ((W.setCell ⟨w.heap.size, 0, none⟩ (.int .i64 (placeSum ys))).setCell ⟨w.heap.size + 1, 0, none⟩ (.bool (placeIs ys))).drew) g0 (grownBy_putObj' _ D (.deferred none)) (fun r e => by cases e; exact ⟨_, hK', rfl⟩)
    have hc6 := cell_kept (W := ((W.setCell ⟨w.heap.size, 0, none⟩ (.int .i64 (placeSum ys))).setCell ⟨w.heap.size + 1, 0, none⟩ (.bool (placeIs ys))).drew) g2 (grownBy_putObj' _ D (.deferred none)) (fun r e => by cases e; exact ⟨_, hK', rfl⟩)
    have hBx : Below w.heap.size w ((W.setCell ⟨w.heap.size, 0, none⟩ (.int .i64 (placeSum ys))).setCell ⟨w.heap.size + 1, 0, none⟩ (.bool (placeIs ys))).drew := ((hB.setCell (p := ⟨w.heap.size, 0, none⟩) (Nat.le_refl _) _).setCell (p := ⟨w.heap.size + 1, 0, none⟩) (Nat.le_succ _) _).drew
    refine ⟨.tuple #[.int .i64 (placeSum ys), .bool (placeIs ys)], ?_, rfl, hBx.trans (belowK_b (w := w) (Nat.le_refl _) _ D _ _ (by simp at hD; omega) hK' rfl rfl)⟩
    simp [results, Tryd.results17, go_sem, hc5, hc6]
  case stop =>
    rintro D c pre W _ _ h _
    exact h.elim
end Go.Proofs.YtcfboalepnbifaaDoor
