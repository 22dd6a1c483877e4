/- The document's Join. -/
import Derived.Test.YtlcnicgjlddldaaDoorRefA
namespace Go.Proofs.YtlcnicgjlddldaaDoor
open Go Go.RowKit

theorem infoErr : (Tryd.prog.info? 37).map (fun i => (i.zero, i.size, i.bytes)) = some (some (.agg #[.int .i64 0, .int .i64 0, .int .i64 0, .string ⟨#[]⟩, .slice none 0 0]), 5, 64) := by kernel_rfl

def RefErrs (S : Nat → Prop) (w : World) (g off : Nat) (us : List (Option Tr)) : Prop := ∀ (i : Nat) u, us[i]? = some u → ∃ ds, ds.length = 5 ∧ CellsAt w g (off + i * 5) ds ∧ RefO S w u ds
/-- The cells of faults, one behind the other. -/
def RefCat (S : Nat → Prop) (w : World) : List Tr → List Value → Prop
  | [], cs => cs = []
  | t :: ts, cs => ∃ ds rest, cs = ds ++ rest ∧ ds.length = 5 ∧ RefT S w t ds ∧ RefCat S w ts rest
theorem RefCat.length {S : Nat → Prop} {w : World} : ∀ {ts : List Tr} {cs : List Value}, RefCat S w ts cs → cs.length = ts.length * 5
  | [], _, h => by rw [h]; rfl
  | _ :: ts, _, ⟨ds, rest, e, hl, _, h⟩ => by rw [e, List.length_append, hl, RefCat.length h, List.length_cons]; omega
theorem RefCat.snoc {S : Nat → Prop} {w : World} {t : Tr} {ds : List Value} (hl : ds.length = 5) (hd : RefT S w t ds) : ∀ {ts : List Tr} {cs : List Value}, RefCat S w ts cs → RefCat S w (ts ++ [t]) (cs ++ ds)
  | [], _, h => ⟨ds, [], by rw [h]; simp, hl, hd, rfl⟩
  | _ :: _, _, ⟨d0, r0, e, h0, h1, h⟩ => ⟨d0, r0 ++ ds, by rw [e]; simp, h0, h1, RefCat.snoc hl hd h⟩
theorem RefCat.all {S : Nat → Prop} {w w' : World} (hx : Ext w w') {g : Nat} : ∀ {off : Nat} {ts : List Tr} {cs : List Value}, RefCat S w ts cs → CellsAt w' g off cs → RefAll S w' g off ts
  | _, [], _, _, _ => trivial
  | off, _ :: _, _, ⟨ds, rest, e, hl, hd, h⟩, hc => by
    subst e
    refine ⟨⟨ds, hl, fun j u hj => hc j u (by rw [List.getElem?_append_left (List.getElem?_eq_some_iff.1 hj).1]; exact hj), RefT.kept (hx.but S) (fun _ h => .inl h) hd⟩, RefCat.all hx h fun j u hj => ?_⟩
    have := hc (5 + j) u (by rw [List.getElem?_append_right (by omega), hl]; simpa using hj)
    rw [show off + 5 + j = off + (5 + j) from by omega]; exact this

theorem own_cells5 {w : World} {B : Nat} {e : TypeId} {sl : Value} {n : Nat} {vals : List Value} (h : w.ownsRow B e 5 sl n vals) : ∀ g cp, sl = .slice (some ⟨g, 0, none⟩) n cp → CellsAt w g 0 vals := by
  intro g cp e j u hj
  rcases h.2 with ⟨rfl, h0⟩ | ⟨g', c', cur, rfl, _, hg, _, _, _, ht⟩
  · cases e
  · injection e with e1 e2 e3
    injection e1 with e4
    injection e4 with e5
    subst e5
    have hjl : j < n * 5 := by have := (List.getElem?_eq_some_iff.1 hj).1; have := h.1; omega
    have e2 : (cur.toList.take (n * 5))[j]? = cur[j]? := by
      rw [List.getElem?_take, if_pos (by omega), Array.getElem?_toList]
    rw [Lib.cell_of_heap hg, Nat.zero_add, ← e2, ht, hj]

structure RJ (S : Nat → Prop) (w wr : World) (us : List (Option Tr)) (i : Nat) (cs : List Value) (sl : Value) : Prop where
  below : Below w.heap.size w wr
  cell : wr.heap[w.heap.size]? = some (.cells refNone.toArray 37 (0, 0))
  own : wr.ownsRow (w.heap.size + 1) 37 5 sl (somes (us.take i)).length cs
  reps : RefCat S w (somes (us.take i)) cs

theorem five_back {S : Nat → Prop} {us : List (Option Tr)} {w wr : World} {tmps : Array Value} {T : TypeId}
    (hc : wr.heap[w.heap.size]? = some (.cells refNone.toArray T (0, 0))) (hx : Ext w wr) (x0 x1 x2 x3 x4 : Value) (hh : tmps[2]? = some (.pointer (some ⟨w.heap.size, 0, none⟩)))
    (hr : ∀ w5, Ext w w5 → ExtBut (· = w.heap.size) wr w5 → RefO S w5 (joined us) [x0, x1, x2, x3, x4]) :
    bodyPost Tryd.prog Tryd.f36 (fun e w' => ∃ cs, e = Ending.returned (Value.agg cs.toArray) ∧ RefO S w' (joined us) cs ∧ Ext w w') Exit.ret ⟨tmps, []⟩
      (((((wr.setCell ⟨w.heap.size, 0, none⟩ x0).setCell ⟨w.heap.size, 1, none⟩ x1).setCell ⟨w.heap.size, 2, none⟩ x2).setCell ⟨w.heap.size, 3, none⟩ x3).setCell ⟨w.heap.size, 4, none⟩ x4) := by
  have h0 := heap_setCell_at hc 0 x0
  have h1 := heap_setCell_at h0 1 x1
  have h2 := heap_setCell_at h1 2 x2
  have h3 := heap_setCell_at h2 3 x3
  have h4 := heap_setCell_at h3 4 x4
  have hx5 : Ext w (((((wr.setCell ⟨w.heap.size, 0, none⟩ x0).setCell ⟨w.heap.size, 1, none⟩ x1).setCell ⟨w.heap.size, 2, none⟩ x2).setCell ⟨w.heap.size, 3, none⟩ x3).setCell ⟨w.heap.size, 4, none⟩ x4) :=
    ((((Below.setCell (p := ⟨w.heap.size, 0, none⟩) hx (Nat.le_refl _) x0).setCell (p := ⟨w.heap.size, 1, none⟩) (Nat.le_refl _) x1).setCell (p := ⟨w.heap.size, 2, none⟩) (Nat.le_refl _) x2).setCell (p := ⟨w.heap.size, 3, none⟩) (Nat.le_refl _) x3).setCell (p := ⟨w.heap.size, 4, none⟩) (Nat.le_refl _) x4
  have hy5 : ExtBut (· = w.heap.size) wr (((((wr.setCell ⟨w.heap.size, 0, none⟩ x0).setCell ⟨w.heap.size, 1, none⟩ x1).setCell ⟨w.heap.size, 2, none⟩ x2).setCell ⟨w.heap.size, 3, none⟩ x3).setCell ⟨w.heap.size, 4, none⟩ x4) :=
    ((((ExtBut.setCell (S := fun k => k = w.heap.size) wr ⟨w.heap.size, 0, none⟩ x0 rfl).trans (ExtBut.setCell (S := fun k => k = w.heap.size) _ ⟨w.heap.size, 1, none⟩ x1 rfl)).trans (ExtBut.setCell (S := fun k => k = w.heap.size) _ ⟨w.heap.size, 2, none⟩ x2 rfl)).trans (ExtBut.setCell (S := fun k => k = w.heap.size) _ ⟨w.heap.size, 3, none⟩ x3 rfl)).trans (ExtBut.setCell (S := fun k => k = w.heap.size) _ ⟨w.heap.size, 4, none⟩ x4 rfl)
  generalize (((((wr.setCell ⟨w.heap.size, 0, none⟩ x0).setCell ⟨w.heap.size, 1, none⟩ x1).setCell ⟨w.heap.size, 2, none⟩ x2).setCell ⟨w.heap.size, 3, none⟩ x3).setCell ⟨w.heap.size, 4, none⟩ x4) = w5 at h4 hx5 hy5 ⊢
  have e0 : w5.cell? ⟨w.heap.size, 0, none⟩ = some x0 := by rw [Lib.cell_of_heap h4]; rfl
  have e1 : w5.cell? ⟨w.heap.size, 1, none⟩ = some x1 := by rw [Lib.cell_of_heap h4]; rfl
  have e2 : w5.cell? ⟨w.heap.size, 2, none⟩ = some x2 := by rw [Lib.cell_of_heap h4]; rfl
  have e3 : w5.cell? ⟨w.heap.size, 3, none⟩ = some x3 := by rw [Lib.cell_of_heap h4]; rfl
  have e4 : w5.cell? ⟨w.heap.size, 4, none⟩ = some x4 := by rw [Lib.cell_of_heap h4]; rfl
  refine bodyPost_ret (v := .agg #[x0, x1, x2, x3, x4]) (by simp [results, Tryd.results36, go_sem, hh, e0, e1, e2, e3, e4]) rfl ⟨[x0, x1, x2, x3, x4], rfl, hr w5 hx5 hy5, hx5⟩

set_option maxHeartbeats 4000000 in
set_option maxRecDepth 100000 in
theorem refJoin_some (S : Nat → Prop) (us : List (Option Tr)) (g off cap : Nat) (w : World) (hS : ∀ k, S k → k < w.heap.size) (he : RefErrs S w g off us) (hn : us.length ≤ 1000000) :
    Calls Tryd.prog 36 #[.slice (some ⟨g, off, none⟩) us.length cap] w fun e w' => ∃ cs, e = .returned (.agg cs.toArray) ∧ RefO S w' (joined us) cs ∧ Ext w w' := by
  obtain ⟨i0, hi, hz0, hz1, hz2⟩ := info_parts infoErr
  have HE := Lib.hid he; clear he
  have HS := Lib.hid hS; clear hS
  have HI := Lib.hid (And.intro hi (And.intro hz0 (And.intro hz1 hz2))); clear hi hz0 hz1 hz2
  go_enter Tryd.func36, Tryd.ntmps36
  go_wp2
  go_loopg [4, 3] us.length (fun k p sl wr => ∃ (i : Nat) (cs : List Value), i + k = us.length ∧ p = .int .i64 i ∧ Hid (RJ S w wr us i cs sl))
  case atStart => exact ⟨0, [], by omega, rfl, (Ext.refl w).alloc _, Go.heap_alloc_new w _, World.ownsRow_nil _ _ _ _, rfl⟩
  case round =>
    obtain ⟨i, cs, hik, rfl, hinv⟩ := hrel

    have HK := Lib.hid hik; clear hik
    have hi1 : i ≤ us.length := by have := HK.out; omega
    by_cases hlt : i < us.length
    · obtain ⟨t, ht⟩ : ∃ t, us[i]? = some t := ⟨us[i], List.getElem?_eq_getElem hlt⟩
      obtain ⟨ds, hdl, hdc, hdr⟩ := HE.out i t ht
      obtain ⟨k, c, q, z, a, n, cp, rfl, hk⟩ := RefO.form hdr
      have hx : Ext w wr := hinv.out.below
      have k0 : wr.cell? ⟨g, off + i * 5, none⟩ = some (.int .i64 k) := hx.cell (hdc 0 _ rfl)
      have k1 : wr.cell? ⟨g, off + i * 5 + 1, none⟩ = some (.int .i64 c) := hx.cell (hdc 1 _ rfl)
      have k2 : wr.cell? ⟨g, off + i * 5 + 2, none⟩ = some (.int .i64 q) := hx.cell (hdc 2 _ rfl)
      have k3 : wr.cell? ⟨g, off + i * 5 + 3, none⟩ = some (.string z) := hx.cell (hdc 3 _ rfl)
      have k4 : wr.cell? ⟨g, off + i * 5 + 4, none⟩ = some (.slice a n cp) := hx.cell (hdc 4 _ rfl)
      have HT := Lib.hid (And.intro ht (And.intro hdc hdr)); clear ht hdc hdr hx hdl
      cases t with
      | none =>
        obtain rfl : k = 0 := hk.2 rfl
        clear hk
        go_wp2
        go_roundg (gk - 1)
        case measure => have := HK.out; omega
        case rel =>
          have hst : somes (us.take (i + 1)) = somes (us.take i) := by rw [somes_take us i none HT.out.1]; simp [somes]
          exact ⟨i + 1, cs, by have := HK.out; omega, by go_num, hinv.out.below, hinv.out.cell, by rw [hst]; exact hinv.out.own, by rw [hst]; exact hinv.out.reps⟩
      | some t =>
        have hk0 : k ≠ 0 := fun e => by have := hk.1 e; cases this
        have hkb : ((k : Int) != 0) = true := by simp; omega
        clear hk hk0
        have hown0 := hinv.out.own
        have hcl : cs.length = (somes (us.take i)).length * 5 := hinv.out.reps.length
        have hle : (somes (us.take i)).length ≤ i := by
          have h2 := somes_le (us.take i)
          rw [List.length_take] at h2
          omega
        have hso : wr.heap.size ≥ w.heap.size + 1 := (Array.getElem?_eq_some_iff.1 hinv.out.cell).1
        go_wp2_with (at_builtin; go_loud (refine wpList_append_own _ rfl _ _ 25 rfl (w.heap.size + 1) 37 i0 (.agg #[.int .i64 0, .int .i64 0, .int .i64 0, .string ⟨#[]⟩, .slice none 0 0]) 5 64 Tryd.underlying25 HI.out.1 HI.out.2.1 HI.out.2.2.1 HI.out.2.2.2 rfl (by decide) _ _ _ rfl (hown0.alloc _) ⟨wr.heap.size, 0, none⟩ 1 1 [.int .i64 k, .int .i64 c, .int .i64 q, .string z, .slice a n cp] rfl rfl ?g1 (by simp [Value.oneCell']) (by unfold maxLen; omega) (by omega) (by simp; omega) ?g2))
        case g1 =>
          intro j u hj
          have := cells_new wr [.int .i64 k, .int .i64 c, .int .i64 q, .string z, .slice a n cp] 37 wr.heap.size rfl j u hj
          rw [Nat.zero_add] at this
          rw [show (⟨wr.heap.size, 0, none⟩ : Addr).add j = ⟨wr.heap.size, j, none⟩ from by unfold Addr.add; split <;> simp_all]
          exact this
        case g2 =>
          intro v' w1 hown' hgrow hnn
          clear hnn
          have hb1 : w1.heap[w.heap.size]? = some (.cells refNone.toArray 37 (0, 0)) := by
            rw [hgrow.block w.heap.size (by simp; omega) (fun e => by
              have := hown0.lt _ e.symm; omega)]
            exact heap_ext' ((Ext.refl wr).alloc _) hinv.out.cell
          have hbel1 : Below w.heap.size w w1 := (hinv.out.below.alloc (by omega) _).grown hgrow (by simp; omega) (fun k ek => by
            have := hown0.lt k ek; omega)
          have HB := Lib.hid (And.intro hb1 (And.intro hbel1 hown'))
          clear hb1 hbel1 hown' hgrow hown0 k0 k1 k2 k3 k4
          go_wp2
          go_roundg (gk - 1)
          case measure => have := HK.out; omega
          case rel =>
            have hst : somes (us.take (i + 1)) = somes (us.take i) ++ [t] := by rw [somes_take us i (some t) HT.out.1]; rfl
            refine ⟨i + 1, cs ++ [.int .i64 k, .int .i64 c, .int .i64 q, .string z, .slice a n cp], by have := HK.out; omega, by go_num, HB.out.2.1, HB.out.1, ?_, ?_⟩
            · rw [hst, List.length_append]
              exact HB.out.2.2
            · rw [hst]
              exact RefCat.snoc rfl (show RefT S w t _ from HT.out.2.2) hinv.out.reps
    · have hie : i = us.length := by omega
      subst hie
      have hreps : RefCat S w (somes us) cs := by
        have := hinv.out.reps
        rwa [List.take_length] at this
      have hown : wr.ownsRow (w.heap.size + 1) 37 5 u3 (somes us).length cs := by
        have := hinv.out.own
        rwa [List.take_length] at this
      have hx : Ext w wr := hinv.out.below
      have hcell := hinv.out.cell
      have HR := Lib.hid hreps; clear hreps
      have HX := Lib.hid hx; clear hx
      clear hi1 hlt HK HI hinv
      rcases hss : somes us with _ | ⟨t1, _ | ⟨t2, ts⟩⟩
      · rw [hss] at hown
        have hsl : ∃ a c, u3 = .slice a 0 c := by
          rcases hown.2 with ⟨rfl, _⟩ | ⟨g, c, cur, rfl, _⟩
          · exact ⟨_, _, rfl⟩
          · exact ⟨_, _, rfl⟩
        obtain ⟨a, c, rfl⟩ := hsl
        clear hown
        have HS2 := Lib.hid hss; clear hss
        have f0 : wr.frozen? ⟨w.heap.size, 0, none⟩ = false := Lib.frozen_of_heap hcell 0
        have f1 : wr.frozen? ⟨w.heap.size, 1, none⟩ = false := Lib.frozen_of_heap hcell 1
        have f2 : wr.frozen? ⟨w.heap.size, 2, none⟩ = false := Lib.frozen_of_heap hcell 2
        have f3 : wr.frozen? ⟨w.heap.size, 3, none⟩ = false := Lib.frozen_of_heap hcell 3
        have f4 : wr.frozen? ⟨w.heap.size, 4, none⟩ = false := Lib.frozen_of_heap hcell 4
        have z0 : wr.cell? ⟨w.heap.size, 0, none⟩ = some (.int .i64 0) := by rw [Lib.cell_of_heap hcell]; rfl
        have z1 : wr.cell? ⟨w.heap.size, 1, none⟩ = some (.int .i64 0) := by rw [Lib.cell_of_heap hcell]; rfl
        have z2 : wr.cell? ⟨w.heap.size, 2, none⟩ = some (.int .i64 0) := by rw [Lib.cell_of_heap hcell]; rfl
        have z3 : wr.cell? ⟨w.heap.size, 3, none⟩ = some (.string ⟨#[]⟩) := by rw [Lib.cell_of_heap hcell]; rfl
        have z4 : wr.cell? ⟨w.heap.size, 4, none⟩ = some (.slice none 0 0) := by rw [Lib.cell_of_heap hcell]; rfl
        go_wp2
        refine five_back hcell HX.out _ _ _ _ _ rfl fun w5 _ _ => ?_
        unfold joined; rw [HS2.out]; exact rfl
      · rw [hss] at hown
        have HQ := HR.out
        rw [hss] at HQ
        obtain ⟨ds, rest, e, hdl, hd, hrest⟩ := HQ
        obtain rfl : rest = [] := hrest
        rw [List.append_nil] at e
        subst e
        obtain ⟨g', cp', rfl⟩ := ownsRow_succ (k := 0) hown
        have hcs := own_cells5 hown g' cp' rfl
        obtain ⟨k, c, q, z, a, n, cp, rfl, _⟩ := RefO.form (t := some t1) hd
        have k0 : wr.cell? ⟨g', 0, none⟩ = some (.int .i64 k) := hcs 0 _ rfl
        have k1 : wr.cell? ⟨g', 1, none⟩ = some (.int .i64 c) := hcs 1 _ rfl
        have k2 : wr.cell? ⟨g', 2, none⟩ = some (.int .i64 q) := hcs 2 _ rfl
        have k3 : wr.cell? ⟨g', 3, none⟩ = some (.string z) := hcs 3 _ rfl
        have k4 : wr.cell? ⟨g', 4, none⟩ = some (.slice a n cp) := hcs 4 _ rfl
        have HS2 := Lib.hid (And.intro hss hd); clear hss hd hcs hown
        have f0 : wr.frozen? ⟨w.heap.size, 0, none⟩ = false := Lib.frozen_of_heap hcell 0
        have f1 : wr.frozen? ⟨w.heap.size, 1, none⟩ = false := Lib.frozen_of_heap hcell 1
        have f2 : wr.frozen? ⟨w.heap.size, 2, none⟩ = false := Lib.frozen_of_heap hcell 2
        have f3 : wr.frozen? ⟨w.heap.size, 3, none⟩ = false := Lib.frozen_of_heap hcell 3
        have f4 : wr.frozen? ⟨w.heap.size, 4, none⟩ = false := Lib.frozen_of_heap hcell 4
        have z0 : wr.cell? ⟨w.heap.size, 0, none⟩ = some (.int .i64 0) := by rw [Lib.cell_of_heap hcell]; rfl
        have z1 : wr.cell? ⟨w.heap.size, 1, none⟩ = some (.int .i64 0) := by rw [Lib.cell_of_heap hcell]; rfl
        have z2 : wr.cell? ⟨w.heap.size, 2, none⟩ = some (.int .i64 0) := by rw [Lib.cell_of_heap hcell]; rfl
        have z3 : wr.cell? ⟨w.heap.size, 3, none⟩ = some (.string ⟨#[]⟩) := by rw [Lib.cell_of_heap hcell]; rfl
        have z4 : wr.cell? ⟨w.heap.size, 4, none⟩ = some (.slice none 0 0) := by rw [Lib.cell_of_heap hcell]; rfl
        go_wp2
        refine five_back hcell HX.out _ _ _ _ _ rfl fun w5 hx5 _ => ?_
        unfold joined; rw [HS2.out.1]
        exact RefT.kept (hx5.but S) (fun _ h => .inl h) HS2.out.2
      · have hlen : (somes us).length = ts.length + 1 + 1 := by rw [hss]; rfl
        rw [hlen] at hown
        obtain ⟨g', cp', rfl⟩ := ownsRow_succ (k := ts.length + 1) hown
        have hgl : w.heap.size + 1 ≤ g' := (hown.lt g' rfl).1
        have hcs := own_cells5 hown g' cp' rfl
        have hy0 : ((ts.length : Int) + 1 + 1 == 0) = false := by simp; omega
        have hy1 : ((ts.length : Int) + 1 + 1 == 1) = false := by simp; omega
        have HS2 := Lib.hid (And.intro hss hcs); clear hss hcs hown
        have f0 : wr.frozen? ⟨w.heap.size, 0, none⟩ = false := Lib.frozen_of_heap hcell 0
        have f1 : wr.frozen? ⟨w.heap.size, 1, none⟩ = false := Lib.frozen_of_heap hcell 1
        have f2 : wr.frozen? ⟨w.heap.size, 2, none⟩ = false := Lib.frozen_of_heap hcell 2
        have f3 : wr.frozen? ⟨w.heap.size, 3, none⟩ = false := Lib.frozen_of_heap hcell 3
        have f4 : wr.frozen? ⟨w.heap.size, 4, none⟩ = false := Lib.frozen_of_heap hcell 4
        have z0 : wr.cell? ⟨w.heap.size, 0, none⟩ = some (.int .i64 0) := by rw [Lib.cell_of_heap hcell]; rfl
        have z1 : wr.cell? ⟨w.heap.size, 1, none⟩ = some (.int .i64 0) := by rw [Lib.cell_of_heap hcell]; rfl
        have z2 : wr.cell? ⟨w.heap.size, 2, none⟩ = some (.int .i64 0) := by rw [Lib.cell_of_heap hcell]; rfl
        have z3 : wr.cell? ⟨w.heap.size, 3, none⟩ = some (.string ⟨#[]⟩) := by rw [Lib.cell_of_heap hcell]; rfl
        have z4 : wr.cell? ⟨w.heap.size, 4, none⟩ = some (.slice none 0 0) := by rw [Lib.cell_of_heap hcell]; rfl
        go_wp2
        refine five_back hcell HX.out _ _ _ _ _ rfl fun w5 hx5 hy5 => ?_
        have hj : joined us = some (.row (somes us)) := by unfold joined; rw [HS2.out.1]
        rw [hj]
        have hl5 := somes_le us
        refine ⟨g', cp', by rw [hlen], fun h => ?_, by omega, by omega, ?_⟩
        · have := HS.out _ h; omega
        · exact RefCat.all hx5 HR.out (HS2.out.2.kept hy5 (by omega))
end Go.Proofs.YtlcnicgjlddldaaDoor
